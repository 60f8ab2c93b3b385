import PyProof.Rows.All
import Wide.All
import OpenK.AllK
import Wide.FinOn
import Lean
import PyProof.EqAt
import PyProof.EqKinds
import PyProof.NeKinds
import PyProof.TupleCall
import PyProof.Rows.SetFrom
import PyProof.CollectWalk
import PyProof.DictIter
import PyProof.Rows.SortShell
import KE.KDictSum
import PyProof.Rows.SortStr
import PyProof.ZipIter
import KE.KItemsList
import PyProof.Rows.SumAny
import PyProof.Rows.StrJoin2
import PyProof.Rows.ZipGen
import PyProof.ConsumeWalk
import PyProof.FString5
import PyProof.StrOps2
import PyProof.StrWalks
import PyProof.FactsAll.dict
import PyProof.TupleOps
import KE.KRevIter
import PyProof.ListNew
import PyProof.TupleOfGen
import PyProof.Rows.SeqMore
import PyProof.MeetsSeq2
import PyProof.FactsAll.tuple
import PyProof.FactsAll.list
import OpenK.KTop
import KE.KIsAll
import PyProof.Draws
import PyProof.EnumMake
import PyProof.EnumFor
import PyProof.AutoSeq1
import PyProof.ListRange
import PyProof.StationsW
import PyProof.RulesAs
import PyProof.ExcClass2
import PyProof.Ns1
import PyProof.NsCount
import PyProof.Slots
import PyProof.ExcArgs
import OpenK.KDescr
import OpenK.KMake
import PyProof.InstStoreFacts
import PyProof.ExcBaseAll.ValueError
import OpenK.KOwn
import PyProof.NsDelKeeps
import PyProof.StrBlockG
import PyProof.AutoListH
import PySem.Challenge.RW_makes_k05_whole_any_bytes
set_option Elab.async false
set_option linter.all false
set_option maxRecDepth 100000
local macro_rules | `(tactic| trivial) => `(tactic| first | exact .inl rfl | exact .inr rfl | rfl | decide | (intro _; rfl) | exact Or.inl rfl | exact Or.inr rfl | assumption | exact ⟨rfl, rfl, rfl, by decide +kernel, rfl, by decide +kernel, by decide +kernel⟩ | fail)
namespace L2
open PySem PySem.Spec PyProof.Rows
def Vp (s:Stmt) (j:Nat):Stmt:=match s with
 | .ClassDef _ _ _ body _ _ _ _ _ _ _=>body.getD j (.Pass ⟨0,0,0,0⟩)
 | _=>.Pass ⟨0,0,0,0⟩
def defArgs (s:Stmt):Arguments:=match s with
 | .FunctionDef _ a _ _ _ _ _ _ _ _=>a
 | _=>{ posonlyargs:=[],args:=[],vararg:=none,kwonlyargs:=[],kw_defaults:=[],kwarg:=none,defaults:=[] }
def defBody (s:Stmt):List Stmt:=match s with
 | .FunctionDef _ _ b _ _ _ _ _ _ _=>b
 | _=>[]
def Zb (s:Stmt):Scope:=match s with
 | .FunctionDef _ _ _ _ _ _ sc _ _ _=>sc
 | _=>{ kind:=.function,names:=[],isGenerator:=false,isCoroutine:=false }
end L2
namespace K05
open PySem PySem.Spec PyProof.Rows
def top (i:Nat):Stmt:=PySem.Challenge.pw_makes_k05_whole_any_bytes.main.body.getD i (.Pass ⟨0,0,0,0⟩)
end K05
namespace L2
open PySem PySem.W PySem.Calls PyProof.Rows
section
variable {tb:String->Option Builtin} {p:Program} {w:World} {m:Nat} {a:Option Value}
def runT (tb:String->Option Builtin) (p:Program) (w:World) (m:Nat) (a:Option Value):Nat->SharedT->Thread->Option SharedT
 | 0,_,_=>none
 | k+1,s,t=>bif through t then some s else bif stepOk m a t then (match stepT (denote tb) p w s t with | some (s',t')=>runT tb p w m a k s' t' | none=>none) else none
theorem runT_of:∀ {k:Nat} {s s':SharedT} {t:Thread},runT tb p w m a k s t=some s'->topRun tb p w m a k s.abs t=some s'.abs
 | 0,_,_,_,h=>by cases h
 | k+1,s,s',t,h=>by
  unfold runT at h
  unfold topRun
  cases ht:through t with
  | true=>rw [ht] at h; cases h; rfl
  | false =>
   rw [ht] at h
   cases hk:stepOk m a t with
   | false=>rw [hk] at h; cases h
   | true =>
    rw [hk] at h
    cases hs:stepT (denote tb) p w s t with
    | none=>rw [hs] at h; cases h
    | some r =>
     obtain ⟨s₂,t₂⟩:=r
     rw [hs] at h
     rw [stepT_spec hs]
     exact runT_of h
end
def mkT:List Obj->Nat->BT->BT
 | [],_,t=>t
 | o::l,i,t=>mkT l (i+1) (t.ins i o)
noncomputable abbrev boot0 (w:World) (os:OsState):Shared:=⟨boot_heap w.params,Array.mk [],boot_drawn,boot_toks,os⟩
noncomputable abbrev bootT (w:World) (os:OsState):SharedT:=⟨mkT (boot_heap w.params).objs.toList 0 .nil,(boot_heap w.params).objs.size,(boot_heap w.params).life,Array.mk [],boot_drawn,boot_toks,os⟩
theorem boot_abs (w:World) (os:OsState):(bootT w os).abs=boot0 w os:=by kernel_rfl
noncomputable abbrev goT (p:Program) (N:Nat) (w:World) (os:OsState):Option SharedT:=runT treeTable p w (boot_heap w.params).objs.size ((boot_heap w.params).nsMap mainGlobals "__annotations__") N (bootT w os) (topStub p)
noncomputable abbrev chkT (p:Program) (w:World) (s:Shared):Bool:=staticsOk (importedModules p.main.body) (boot_heap w.params) s.heap && namesBound p s.heap && gensDone s && laidKept (boot_heap w.params) s.heap
theorem ns_ok (w:World):((boot_heap w.params).isNs mainGlobals && (Array.mk []:Array GenState).size == 0)=true:=by kernel_rfl
theorem map_abs {α:Type _} {o:Option SharedT} {f:Shared->α} {r:α} (h:(o.map fun s=>f s.abs)=some r):∃ s,o=some s/\f s.abs=r:=by
 obtain ⟨s,e,q⟩:=Option.map_eq_some_iff.mp h
 exact ⟨s,e,q⟩
theorem top_of {α β:Type} {p:Program} {N:Nat} {w:World} {os:OsState} {f:Shared->α} {g:Shared->β} {x:α} {y:β} (h1:((goT p N w os).map fun s=>chkT p w s.abs)=some true)
  (h2:((goT p N w os).map fun s=>f s.abs)=some x) (h3:((goT p N w os).map fun s=>g s.abs)=some y) :
  (topFrom treeTable p w N (boot0 w os)).map (fun s=>(f s,g s))=some (x,y):=by
 obtain ⟨s,e,c⟩:=map_abs h1
 obtain ⟨s2,e2,c2⟩:=map_abs h2
 obtain ⟨s3,e3,c3⟩:=map_abs h3
 rw [e] at e2 e3
 cases e2
 cases e3
 have r:=runT_of e
 rw [boot_abs] at r
 unfold topFrom
 rw [show ((boot0 w os).heap.isNs mainGlobals && (boot0 w os).gens.size == 0)=true from ns_ok w]
 show Option.map _ (Option.bind (topRun treeTable p w (boot_heap w.params).objs.size ((boot_heap w.params).nsMap mainGlobals "__annotations__") N (boot0 w os) (topStub p)) _)=_
 rw [r]
 show Option.map _ (match chkT p w s.abs with | true=>some s.abs | false=>none)=_
 rw [c]
 show some (f s.abs,g s.abs)=_
 rw [c2,c3]
end L2
namespace K05
open PySem PySem.Spec PyProof.Rows L2
def viewK:Program:={ PySem.Challenge.pw_makes_k05_whole_any_bytes with main:={ PySem.Challenge.pw_makes_k05_whole_any_bytes.main with body:=[top 1,top 2,top 3,top 4,top 5,top 6,top 7,top 8,top 9,top 10,top 11,top 12,top 13,top 14,top 15,top 16,top 17,top 18,top 20,top 22,top 23,top 24,top 25,top 26,top 27,top 28,top 29,top 30,top 31,top 32,top 33,top 34,top 35,top 36,top 37,top 38,top 39,top 40,top 41,top 43,top 44,top 45,top 46,top 47,top 48,top 49,top 50,top 51,top 52,top 53,top 54,top 55,top 56,top 57,top 58,top 59,top 60,top 61,top 62,top 63,top 64] } }
def Vr:List Str:=["BELOW_LABELS"]
abbrev en (P:Params) (x:Str) (t:Tok) (v:Value):DictEntry:=⟨PyData.keyHash P x,.str x t,v⟩
abbrev fo (cls:Value) (nm q:Str) (s:Stmt) (kw doc pm:Value) (an:Option Addr) (cd ct:Value) (sl:Array (Option Value)):Obj:=⟨cls,none,.func (W.fnOf nm q (L2.defArgs s) (L2.defBody s) (L2.Zb s) .none kw doc pm an cd ct),sl⟩
abbrev fn (nm q:Str) (s:Stmt) (md:Str) (t:Nat) (c:Addr):Obj:=fo (.type "function") nm q s .none .none (.str md t) .none (.ref c) .none #[]
abbrev cd (x:Str) (a:Nat) (q:Str) (b c:Nat) (l k:Int) (r1 r2 r3 r4 r5:Addr) (e f:Int) (g:Nat):Obj:=⟨.type "code",.none,.fields #[.str x a,.str q b,.str "/claim/cut.py" c,.int l 0,.int k 0,.int 0 0,.int 0 0,.int 3 0,.ref r1,.bool Bool.true,.int 181 0,.ref r2,.none,.ref r3,.ref r4,.ref r5,.int e 0,.int f 0,.str "/claim/cut.py" g], #[]⟩
noncomputable def heapK:Params->W.Frag:=fun P =>
 (nat_lit 3, ⟨.type "dict", .none, .dict #[en P "__name__" 165 (.str "law_makes_k05_whole_any_bytes" 707), en P "__doc__" 166 (.none), en P "__package__" 167 (.none), en P "__loader__" 168 (.builtin "__main__.__loader__#opaque"), en P "__spec__" 169 (.none), en P "__annotations__" 170 (.ref 6), en P "__builtins__" 171 (.ref 4), en P "__file__" 173 (.str "/claim/cut.py" 172), en P "__cached__" 174 (.none), en P "MakeError" 206 (.ref 24), en P "BadByte" 231 (.ref 44), en P "NoPlace" 256 (.ref 63), en P "BadText" 281 (.ref 82), en P "BadItem" 306 (.ref 101), en P "BadDeed" 331 (.ref 120), en P "NoTable" 360 (.ref 139), en P "NoMove" 385 (.ref 158), en P "NoFile" 410 (.ref 177), en P "NoValue" 426 (.ref 189), en P "NoRow" 442 (.ref 201), en P "LETTERS" 444 (.str "abcdefghijklmnopqrstuvwxyz" 443), en P "SIGNS" 446 (.str " !\"#$&'()*+,-./0123456789:;<=>?@ABCDEFGHIJKLMNOPQRSTUVWXYZ[\\]^_`abcdefghijklmnopqrstuvwxyz{|}~" 445), en P "GREATEST_WHOLE" 448 (.int 1000000000000000000 447), en P "GREATEST_NUMBER" 450 (.int 999 449), en P "LONGEST_TEXT" 452 (.int 200 451), en P "LONGEST_NAME" 454 (.int 8 453), en P "DEEPEST" 456 (.int 100 455), en P "long_of" 466 (.ref 210), en P "SORTS" 475 (.ref 211), en P "GREATEST_SIZE" 477 (.int 1000000 476), en P "BELOW_LABELS" 486 (.ref 212), en P "packed" 494 (.ref 219), en P "pack_item" 505 (.ref 226), en P "pack_label" 514 (.ref 233), en P "pack_signs" 520 (.ref 238), en P "pack_bytes" 528 (.ref 245), en P "folded" 535 (.ref 252), en P "unfolded" 542 (.ref 259), en P "Reader" 619 (.ref 311), en P "unpacked" 626 (.ref 322), en P "unpacked_between" 637 (.ref 329), en P "next_item" 652 (.ref 336), en P "next_text" 661 (.ref 343), en P "next_sign" 669 (.ref 350), en P "next_letter" 677 (.ref 357), en P "next_label" 686 (.ref 364), en P "next_number" 695 (.ref 371), en P "next_key" 706 (.ref 378), en P "_law_feed" 717 (.ref 385), en P "_law_draw" 727 (.ref 392), en P "_law_name" 733 (.ref 397), en P "_law_number" 741 (.ref 404), en P "_law_whole" 750 (.ref 411), en P "_law_text" 756 (.ref 416), en P "_law_item" 762 (.ref 421), en P "_law_long" 770 (.ref 428), en P "_law_key" 776 (.ref 433), en P "_law_packed" 785 (.ref 440), en P "_law_number_at" 798 (.ref 447), en P "_law_signs_at" 804 (.ref 452), en P "_law_key_at" 816 (.ref 459), en P "_law_room_at" 831 (.ref 466), en P "_law_read_at" 847 (.ref 473), en P "_law_read" 856 (.ref 480), en P "_law_spoilt" 870 (.ref 487), en P "_law_unpacked" 879 (.ref 494), en P "_law_right" 889 (.ref 501), en P "_law_within" 900 (.ref 508), en P "_law_far" 908 (.ref 515), en P "law" 914 (.ref 520)] 70, #[]⟩) ::
 (nat_lit 23,⟨.type "dict",.none,.dict #[en P "__module__" 196 (.str "makes.errors" 187),en P "__firstlineno__" 200 (.int 2 199),en P "__static_attributes__" 201 (.ref 22),en P "__weakref__" 203 (.ref 25),en P "__doc__" 204 (.none)] 3, #[]⟩) ::
 (nat_lit 24,⟨.type "type",.none,.cls { name:="MakeError",bases:=[.type "ValueError"],mro:=[.ref 24,.type "ValueError",.type "Exception",.type "BaseException",.type "object"],ns:=23,qualname:="MakeError",subclasses:=[.ref 44,.ref 63,.ref 82,.ref 101,.ref 120,.ref 139,.ref 158,.ref 177,.ref 189,.ref 201] }, #[.some (.ref 15),.none,.some (.str "MakeError" 189),.some (.str "MakeError" 197),.some (.builtin "ValueError.__new__"),.some (.bool Bool.true)]⟩) ::
 (nat_lit 40,cd "__init__" 219 "BadByte.__init__" 220 221 6 2 35 36 37 38 39 224 6 225) ::
 (nat_lit 41,fn "__init__" "BadByte.__init__" (Vp (top 2) 0) "makes.errors" 187 40) ::
 (nat_lit 43,⟨.type "dict",.none,.dict #[en P "__module__" 214 (.str "makes.errors" 187),en P "__firstlineno__" 218 (.int 4 217),en P "__init__" 226 (.ref 41),en P "__static_attributes__" 228 (.ref 42),en P "__doc__" 229 (.none)] 2, #[]⟩) ::
 (nat_lit 44,⟨.type "type",.none,.cls { name:="BadByte",bases:=[.ref 24],mro:=[.ref 44,.ref 24,.type "ValueError",.type "Exception",.type "BaseException",.type "object"],ns:=43,qualname:="BadByte" }, #[.some (.ref 28),.none,.some (.str "BadByte" 207),.some (.str "BadByte" 215),.some (.builtin "ValueError.__new__"),.some (.bool Bool.true)]⟩) ::
 (nat_lit 63,⟨.type "type",.none,.cls { name:="NoPlace",bases:=[.ref 24],mro:=[.ref 63,.ref 24,.type "ValueError",.type "Exception",.type "BaseException",.type "object"],ns:=62,qualname:="NoPlace" }, #[.some (.ref 47),.none,.some (.str "NoPlace" 232),.some (.str "NoPlace" 240),.some (.builtin "ValueError.__new__"),.some (.bool Bool.true)]⟩) ::
 (nat_lit 82,⟨.type "type",.none,.cls { name:="BadText",bases:=[.ref 24],mro:=[.ref 82,.ref 24,.type "ValueError",.type "Exception",.type "BaseException",.type "object"],ns:=81,qualname:="BadText" }, #[.some (.ref 66),.none,.some (.str "BadText" 257),.some (.str "BadText" 265),.some (.builtin "ValueError.__new__"),.some (.bool Bool.true)]⟩) ::
 (nat_lit 101,⟨.type "type",.none,.cls { name:="BadItem",bases:=[.ref 24],mro:=[.ref 101,.ref 24,.type "ValueError",.type "Exception",.type "BaseException",.type "object"],ns:=100,qualname:="BadItem" }, #[.some (.ref 85),.none,.some (.str "BadItem" 282),.some (.str "BadItem" 290),.some (.builtin "ValueError.__new__"),.some (.bool Bool.true)]⟩) ::
 (nat_lit 120,⟨.type "type",.none,.cls { name:="BadDeed",bases:=[.ref 24],mro:=[.ref 120,.ref 24,.type "ValueError",.type "Exception",.type "BaseException",.type "object"],ns:=119,qualname:="BadDeed" }, #[.some (.ref 104),.none,.some (.str "BadDeed" 307),.some (.str "BadDeed" 315),.some (.builtin "ValueError.__new__"),.some (.bool Bool.true)]⟩) ::
 (nat_lit 139,⟨.type "type",.none,.cls { name:="NoTable",bases:=[.ref 24],mro:=[.ref 139,.ref 24,.type "ValueError",.type "Exception",.type "BaseException",.type "object"],ns:=138,qualname:="NoTable" }, #[.some (.ref 123),.none,.some (.str "NoTable" 332),.some (.str "NoTable" 340),.some (.builtin "ValueError.__new__"),.some (.bool Bool.true)]⟩) ::
 (nat_lit 158,⟨.type "type",.none,.cls { name:="NoMove",bases:=[.ref 24],mro:=[.ref 158,.ref 24,.type "ValueError",.type "Exception",.type "BaseException",.type "object"],ns:=157,qualname:="NoMove" }, #[.some (.ref 142),.none,.some (.str "NoMove" 361),.some (.str "NoMove" 369),.some (.builtin "ValueError.__new__"),.some (.bool Bool.true)]⟩) ::
 (nat_lit 177,⟨.type "type",.none,.cls { name:="NoFile",bases:=[.ref 24],mro:=[.ref 177,.ref 24,.type "ValueError",.type "Exception",.type "BaseException",.type "object"],ns:=176,qualname:="NoFile" }, #[.some (.ref 161),.none,.some (.str "NoFile" 386),.some (.str "NoFile" 394),.some (.builtin "ValueError.__new__"),.some (.bool Bool.true)]⟩) ::
 (nat_lit 189,⟨.type "type",.none,.cls { name:="NoValue",bases:=[.ref 24],mro:=[.ref 189,.ref 24,.type "ValueError",.type "Exception",.type "BaseException",.type "object"],ns:=188,qualname:="NoValue" }, #[.some (.ref 180),.none,.some (.str "NoValue" 411),.some (.str "NoValue" 419),.some (.builtin "ValueError.__new__"),.some (.bool Bool.true)]⟩) ::
 (nat_lit 201,⟨.type "type",.none,.cls { name:="NoRow",bases:=[.ref 24],mro:=[.ref 201,.ref 24,.type "ValueError",.type "Exception",.type "BaseException",.type "object"],ns:=200,qualname:="NoRow" }, #[.some (.ref 192),.none,.some (.str "NoRow" 427),.some (.str "NoRow" 435),.some (.builtin "ValueError.__new__"),.some (.bool Bool.true)]⟩) ::
 (nat_lit 209,cd "long_of" 459 "long_of" 460 461 50 1 204 205 206 207 208 464 50 465) ::
 (nat_lit 210,fn "long_of" "long_of" (top 20) "makes.longs" 457 209) ::
 (nat_lit 211,⟨.type "tuple",.none,.seq #[.str "whole" 469,.str "text" 470,.str "row" 471,.str "map" 472,.str "rec" 473,.str "arm" 474], #[]⟩) ::
 (nat_lit 212,⟨.type "dict",.none,.dict #[en P "row" 478 (.none),en P "map" 479 (.str "" 480),en P "rec" 481 (.int 0 482)] 3, #[]⟩) ::
 (nat_lit 218,cd "packed" 487 "packed" 488 489 61 1 213 214 215 216 217 492 61 493) ::
 (nat_lit 219,fn "packed" "packed" (top 25) "makes.packing" 467 218) ::
 (nat_lit 225,cd "pack_item" 495 "pack_item" 496 497 65 2 220 221 222 223 224 503 65 504) ::
 (nat_lit 226,fn "pack_item" "pack_item" (top 26) "makes.packing" 467 225) ::
 (nat_lit 232,cd "pack_label" 506 "pack_label" 507 508 81 3 227 228 229 230 231 512 81 513) ::
 (nat_lit 233,fn "pack_label" "pack_label" (top 27) "makes.packing" 467 232) ::
 (nat_lit 237,⟨.type "code",.none,.fields #[.str "pack_signs" 515,.str "pack_signs" 516,.str "/claim/cut.py" 517,.int 86 0,.int 2 0,.int 0 0,.int 0 0,.int 3 0,.ref 234,.bool Bool.true,.int 181 0,.ref 235,.none,.none,.none,.ref 236,.int 518 0,.int 86 0,.str "/claim/cut.py" 519], #[]⟩) ::
 (nat_lit 238,fn "pack_signs" "pack_signs" (top 28) "makes.packing" 467 237) ::
 (nat_lit 244,cd "pack_bytes" 521 "pack_bytes" 522 523 89 2 239 240 241 242 243 526 89 527) ::
 (nat_lit 245,fn "pack_bytes" "pack_bytes" (top 29) "makes.packing" 467 244) ::
 (nat_lit 251,cd "folded" 529 "folded" 530 531 91 1 246 247 248 249 250 533 91 534) ::
 (nat_lit 252,fn "folded" "folded" (top 30) "makes.packing" 467 251) ::
 (nat_lit 258,cd "unfolded" 536 "unfolded" 537 538 93 1 253 254 255 256 257 540 93 541) ::
 (nat_lit 259,fn "unfolded" "unfolded" (top 31) "makes.packing" 467 258) ::
 (nat_lit 272,cd "__init__" 555 "Reader.__init__" 556 557 97 4 267 268 269 270 271 562 97 563) ::
 (nat_lit 273,fn "__init__" "Reader.__init__" (Vp (top 32) 0) "makes.packing" 467 272) ::
 (nat_lit 279,cd "next_byte" 565 "Reader.next_byte" 566 567 102 1 274 275 276 277 278 569 102 570) ::
 (nat_lit 280,fn "next_byte" "Reader.next_byte" (Vp (top 32) 1) "makes.packing" 467 279) ::
 (nat_lit 286,cd "must" 572 "Reader.must" 573 574 108 2 281 282 283 284 285 577 108 578) ::
 (nat_lit 287,fn "must" "Reader.must" (Vp (top 32) 2) "makes.packing" 467 286) ::
 (nat_lit 293,cd "next_long" 580 "Reader.next_long" 581 582 112 2 288 289 290 291 292 589 112 590) ::
 (nat_lit 294,fn "next_long" "Reader.next_long" (Vp (top 32) 3) "makes.packing" 467 293) ::
 (nat_lit 300,cd "enter_room" 592 "Reader.enter_room" 593 594 125 1 295 296 297 298 299 598 125 599) ::
 (nat_lit 301,fn "enter_room" "Reader.enter_room" (Vp (top 32) 4) "makes.packing" 467 300) ::
 (nat_lit 307,cd "leave_room" 601 "Reader.leave_room" 602 603 132 2 302 303 304 305 306 606 132 607) ::
 (nat_lit 308,fn "leave_room" "Reader.leave_room" (Vp (top 32) 5) "makes.packing" 467 307) ::
 (nat_lit 310,⟨.type "dict",.none,.dict #[en P "__module__" 550 (.str "makes.packing" 467),en P "__firstlineno__" 554 (.int 95 553),en P "__init__" 564 (.ref 273),en P "next_byte" 571 (.ref 280),en P "must" 579 (.ref 287),en P "next_long" 591 (.ref 294),en P "enter_room" 600 (.ref 301),en P "leave_room" 608 (.ref 308),en P "__static_attributes__" 612 (.ref 309),en P "__dict__" 614 (.ref 312),en P "__weakref__" 616 (.ref 313),en P "__doc__" 617 (.none)] 4, #[]⟩) ::
 (nat_lit 311,⟨.type "type",.none,.cls { name:="Reader",bases:=[.type "object"],mro:=[.ref 311,.type "object"],ns:=310,qualname:="Reader" }, #[.none,.none,.some (.str "Reader" 543),.some (.str "Reader" 551),.some (.builtin "object.__new__"),.some (.bool Bool.true)]⟩) ::
 (nat_lit 321,cd "unpacked" 620 "unpacked" 621 622 134 1 316 317 318 319 320 624 134 625) ::
 (nat_lit 322,fn "unpacked" "unpacked" (top 33) "makes.packing" 467 321) ::
 (nat_lit 328,cd "unpacked_between" 627 "unpacked_between" 628 629 136 3 323 324 325 326 327 635 136 636) ::
 (nat_lit 329,fn "unpacked_between" "unpacked_between" (top 34) "makes.packing" 467 328) ::
 (nat_lit 335,cd "next_item" 638 "next_item" 639 640 142 2 330 331 332 333 334 650 142 651) ::
 (nat_lit 336,fn "next_item" "next_item" (top 35) "makes.packing" 467 335) ::
 (nat_lit 342,cd "next_text" 653 "next_text" 654 655 162 1 337 338 339 340 341 659 162 660) ::
 (nat_lit 343,fn "next_text" "next_text" (top 36) "makes.packing" 467 342) ::
 (nat_lit 349,cd "next_sign" 662 "next_sign" 663 664 167 1 344 345 346 347 348 667 167 668) ::
 (nat_lit 350,fn "next_sign" "next_sign" (top 37) "makes.packing" 467 349) ::
 (nat_lit 356,cd "next_letter" 670 "next_letter" 671 672 171 1 351 352 353 354 355 675 171 676) ::
 (nat_lit 357,fn "next_letter" "next_letter" (top 38) "makes.packing" 467 356) ::
 (nat_lit 363,cd "next_label" 678 "next_label" 679 680 175 3 358 359 360 361 362 684 175 685) ::
 (nat_lit 364,fn "next_label" "next_label" (top 39) "makes.packing" 467 363) ::
 (nat_lit 370,cd "next_number" 687 "next_number" 688 689 181 2 365 366 367 368 369 693 181 694) ::
 (nat_lit 371,fn "next_number" "next_number" (top 40) "makes.packing" 467 370) ::
 (nat_lit 377,cd "next_key" 696 "next_key" 697 698 185 2 372 373 374 375 376 704 185 705) ::
 (nat_lit 378,fn "next_key" "next_key" (top 41) "makes.packing" 467 377) ::
 (nat_lit 384,cd "_law_feed" 709 "_law_feed" 710 711 194 2 379 380 381 382 383 715 194 716) ::
 (nat_lit 385,fn "_law_feed" "_law_feed" (top 43) "law_makes_k05_whole_any_bytes" 707 384) ::
 (nat_lit 391,cd "_law_draw" 718 "_law_draw" 719 720 199 2 386 387 388 389 390 725 199 726) ::
 (nat_lit 392,fn "_law_draw" "_law_draw" (top 44) "law_makes_k05_whole_any_bytes" 707 391) ::
 (nat_lit 396,⟨.type "code",.none,.fields #[.str "_law_name" 728,.str "_law_name" 729,.str "/claim/cut.py" 730,.int 209 0,.int 1 0,.int 0 0,.int 0 0,.int 3 0,.ref 393,.bool Bool.true,.int 181 0,.ref 394,.none,.none,.none,.ref 395,.int 731 0,.int 209 0,.str "/claim/cut.py" 732], #[]⟩) ::
 (nat_lit 397,fn "_law_name" "_law_name" (top 45) "law_makes_k05_whole_any_bytes" 707 396) ::
 (nat_lit 403,cd "_law_number" 734 "_law_number" 735 736 215 1 398 399 400 401 402 739 215 740) ::
 (nat_lit 404,fn "_law_number" "_law_number" (top 46) "law_makes_k05_whole_any_bytes" 707 403) ::
 (nat_lit 410,cd "_law_whole" 742 "_law_whole" 743 744 220 1 405 406 407 408 409 748 220 749) ::
 (nat_lit 411,fn "_law_whole" "_law_whole" (top 47) "law_makes_k05_whole_any_bytes" 707 410) ::
 (nat_lit 415,⟨.type "code",.none,.fields #[.str "_law_text" 751,.str "_law_text" 752,.str "/claim/cut.py" 753,.int 226 0,.int 1 0,.int 0 0,.int 0 0,.int 3 0,.ref 412,.bool Bool.true,.int 181 0,.ref 413,.none,.none,.none,.ref 414,.int 754 0,.int 226 0,.str "/claim/cut.py" 755], #[]⟩) ::
 (nat_lit 416,fn "_law_text" "_law_text" (top 48) "law_makes_k05_whole_any_bytes" 707 415) ::
 (nat_lit 420,⟨.type "code",.none,.fields #[.str "_law_item" 757,.str "_law_item" 758,.str "/claim/cut.py" 759,.int 235 0,.int 2 0,.int 0 0,.int 0 0,.int 3 0,.ref 417,.bool Bool.true,.int 181 0,.ref 418,.none,.none,.none,.ref 419,.int 760 0,.int 235 0,.str "/claim/cut.py" 761], #[]⟩) ::
 (nat_lit 421,fn "_law_item" "_law_item" (top 49) "law_makes_k05_whole_any_bytes" 707 420) ::
 (nat_lit 427,cd "_law_long" 763 "_law_long" 764 765 252 1 422 423 424 425 426 768 252 769) ::
 (nat_lit 428,fn "_law_long" "_law_long" (top 50) "law_makes_k05_whole_any_bytes" 707 427) ::
 (nat_lit 432,⟨.type "code",.none,.fields #[.str "_law_key" 771,.str "_law_key" 772,.str "/claim/cut.py" 773,.int 259 0,.int 1 0,.int 0 0,.int 0 0,.int 3 0,.ref 429,.bool Bool.true,.int 181 0,.ref 430,.none,.none,.none,.ref 431,.int 774 0,.int 259 0,.str "/claim/cut.py" 775], #[]⟩) ::
 (nat_lit 433,fn "_law_key" "_law_key" (top 51) "law_makes_k05_whole_any_bytes" 707 432) ::
 (nat_lit 439,cd "_law_packed" 777 "_law_packed" 778 779 263 1 434 435 436 437 438 783 263 784) ::
 (nat_lit 440,fn "_law_packed" "_law_packed" (top 52) "law_makes_k05_whole_any_bytes" 707 439) ::
 (nat_lit 446,cd "_law_number_at" 786 "_law_number_at" 787 788 277 4 441 442 443 444 445 796 277 797) ::
 (nat_lit 447,fn "_law_number_at" "_law_number_at" (top 53) "law_makes_k05_whole_any_bytes" 707 446) ::
 (nat_lit 451,⟨.type "code",.none,.fields #[.str "_law_signs_at" 799,.str "_law_signs_at" 800,.str "/claim/cut.py" 801,.int 288 0,.int 5 0,.int 0 0,.int 0 0,.int 3 0,.ref 448,.bool Bool.true,.int 181 0,.ref 449,.none,.none,.none,.ref 450,.int 802 0,.int 288 0,.str "/claim/cut.py" 803], #[]⟩) ::
 (nat_lit 452,fn "_law_signs_at" "_law_signs_at" (top 54) "law_makes_k05_whole_any_bytes" 707 451) ::
 (nat_lit 458,cd "_law_key_at" 805 "_law_key_at" 806 807 296 4 453 454 455 456 457 814 296 815) ::
 (nat_lit 459,fn "_law_key_at" "_law_key_at" (top 55) "law_makes_k05_whole_any_bytes" 707 458) ::
 (nat_lit 465,cd "_law_room_at" 817 "_law_room_at" 818 819 305 5 460 461 462 463 464 829 305 830) ::
 (nat_lit 466,fn "_law_room_at" "_law_room_at" (top 56) "law_makes_k05_whole_any_bytes" 707 465) ::
 (nat_lit 472,cd "_law_read_at" 832 "_law_read_at" 833 834 323 4 467 468 469 470 471 845 323 846) ::
 (nat_lit 473,fn "_law_read_at" "_law_read_at" (top 57) "law_makes_k05_whole_any_bytes" 707 472) ::
 (nat_lit 479,cd "_law_read" 848 "_law_read" 849 850 345 1 474 475 476 477 478 854 345 855) ::
 (nat_lit 480,fn "_law_read" "_law_read" (top 58) "law_makes_k05_whole_any_bytes" 707 479) ::
 (nat_lit 486,cd "_law_spoilt" 857 "_law_spoilt" 858 859 350 3 481 482 483 484 485 868 350 869) ::
 (nat_lit 487,fn "_law_spoilt" "_law_spoilt" (top 59) "law_makes_k05_whole_any_bytes" 707 486) ::
 (nat_lit 493,cd "_law_unpacked" 871 "_law_unpacked" 872 873 373 1 488 489 490 491 492 877 373 878) ::
 (nat_lit 494,fn "_law_unpacked" "_law_unpacked" (top 60) "law_makes_k05_whole_any_bytes" 707 493) ::
 (nat_lit 500,cd "_law_right" 880 "_law_right" 881 882 383 1 495 496 497 498 499 887 383 888) ::
 (nat_lit 501,fn "_law_right" "_law_right" (top 61) "law_makes_k05_whole_any_bytes" 707 500) ::
 (nat_lit 507,cd "_law_within" 890 "_law_within" 891 892 390 3 502 503 504 505 506 898 390 899) ::
 (nat_lit 508,fn "_law_within" "_law_within" (top 62) "law_makes_k05_whole_any_bytes" 707 507) ::
 (nat_lit 514,cd "_law_far" 901 "_law_far" 902 903 398 1 509 510 511 512 513 906 398 907) ::
 (nat_lit 515,fn "_law_far" "_law_far" (top 63) "law_makes_k05_whole_any_bytes" 707 514) ::
 (nat_lit 519,⟨.type "code",.none,.fields #[.str "law" 909,.str "law" 910,.str "/claim/cut.py" 911,.int 404 0,.int 1 0,.int 0 0,.int 0 0,.int 3 0,.ref 516,.bool Bool.true,.int 181 0,.ref 517,.none,.none,.none,.ref 518,.int 912 0,.int 404 0,.str "/claim/cut.py" 913], #[]⟩) ::
 (nat_lit 520,fn "law" "law" (top 64) "law_makes_k05_whole_any_bytes" 707 519) ::
 []
def asK:List Addr:=[3,23,24,40,41,43,44,63,82,101,120,139,158,177,189,201,209,210,211,212,218,219,225,226,232,233,237,238,244,245,251,252,258,259,272,273,279,280,286,287,293,294,300,301,307,308,310,311,321,322,328,329,335,336,342,343,349,350,356,357,363,364,370,371,377,378,384,385,391,392,396,397,403,404,410,411,415,416,420,421,427,428,432,433,439,440,446,447,451,452,458,459,465,466,472,473,479,480,486,487,493,494,500,501,507,508,514,515,519,520]
theorem asK_eq (P:Params):asK=(heapK P).map (·.1):=by kernel_rfl
noncomputable abbrev hookK:W.Hook:=W.kHook heapK asK asK_eq
abbrev xtK (s:Shared):Bool:=W.xlAt viewK [] s && W.recOk (W.RowW.records PySem.Challenge.rw_makes_k05_whole_any_bytes.row.toRowW) s
abbrev LeftAt (w:World):Prop:=(W.openEnds treeTable PySem.Challenge.pw_makes_k05_whole_any_bytes w 8816).map (fun s=>(W.openSeen viewK Vr (importedModules PySem.Challenge.pw_makes_k05_whole_any_bytes.main.body) xtK true s,hookK.obs s))=some (W.openGood viewK Vr,hookK.val w)
abbrev seenK (s:Shared):=W.openSeen viewK Vr (importedModules PySem.Challenge.pw_makes_k05_whole_any_bytes.main.body) xtK true s
abbrev wK (w:World) (b:Bool):World:=w.withFollow "special-get-raises" b
theorem chkF (w:World) (os:OsState):((L2.goT PySem.Challenge.pw_makes_k05_whole_any_bytes 8816 (wK w false) os).map fun s=>L2.chkT PySem.Challenge.pw_makes_k05_whole_any_bytes (wK w false) s.abs)=some true:=by kernel_rfl
theorem chkR (w:World) (os:OsState):((L2.goT PySem.Challenge.pw_makes_k05_whole_any_bytes 8816 (wK w true) os).map fun s=>L2.chkT PySem.Challenge.pw_makes_k05_whole_any_bytes (wK w true) s.abs)=some true:=by kernel_rfl
theorem seenF1 (w:World) (os:OsState):((L2.goT PySem.Challenge.pw_makes_k05_whole_any_bytes 8816 (wK w false) os).map fun s=>(seenK s.abs).1)=some (W.openGood viewK Vr).1:=by kernel_rfl
theorem seenF2 (w:World) (os:OsState):((L2.goT PySem.Challenge.pw_makes_k05_whole_any_bytes 8816 (wK w false) os).map fun s=>(seenK s.abs).2.1)=some (W.openGood viewK Vr).2.1:=by kernel_rfl
theorem seenF3 (w:World) (os:OsState):((L2.goT PySem.Challenge.pw_makes_k05_whole_any_bytes 8816 (wK w false) os).map fun s=>(seenK s.abs).2.2)=some (W.openGood viewK Vr).2.2:=by kernel_rfl
theorem seenT1 (w:World) (os:OsState):((L2.goT PySem.Challenge.pw_makes_k05_whole_any_bytes 8816 (wK w true) os).map fun s=>(seenK s.abs).1)=some (W.openGood viewK Vr).1:=by kernel_rfl
theorem seenT2 (w:World) (os:OsState):((L2.goT PySem.Challenge.pw_makes_k05_whole_any_bytes 8816 (wK w true) os).map fun s=>(seenK s.abs).2.1)=some (W.openGood viewK Vr).2.1:=by kernel_rfl
theorem seenT3 (w:World) (os:OsState):((L2.goT PySem.Challenge.pw_makes_k05_whole_any_bytes 8816 (wK w true) os).map fun s=>(seenK s.abs).2.2)=some (W.openGood viewK Vr).2.2:=by kernel_rfl
theorem seen_of {w:World} {os:OsState} (h1:((L2.goT PySem.Challenge.pw_makes_k05_whole_any_bytes 8816 w os).map fun s=>(seenK s.abs).1)=some (W.openGood viewK Vr).1) (h2:((L2.goT PySem.Challenge.pw_makes_k05_whole_any_bytes 8816 w os).map fun s=>(seenK s.abs).2.1)=some (W.openGood viewK Vr).2.1)
  (h3:((L2.goT PySem.Challenge.pw_makes_k05_whole_any_bytes 8816 w os).map fun s=>(seenK s.abs).2.2)=some (W.openGood viewK Vr).2.2):((L2.goT PySem.Challenge.pw_makes_k05_whole_any_bytes 8816 w os).map fun s=>seenK s.abs)=some (W.openGood viewK Vr):=by
 obtain ⟨s,e,c1⟩:=L2.map_abs (f:=fun s=>(seenK s).1) h1
 obtain ⟨s2,e2,c2⟩:=L2.map_abs (f:=fun s=>(seenK s).2.1) h2
 obtain ⟨s3,e3,c3⟩:=L2.map_abs (f:=fun s=>(seenK s).2.2) h3
 rw [e] at e2 e3
 cases e2
 cases e3
 rw [e]
 exact congrArg some (Prod.ext c1 (Prod.ext c2 c3))
theorem seenF (w:World) (os:OsState):((L2.goT PySem.Challenge.pw_makes_k05_whole_any_bytes 8816 (wK w false) os).map fun s=>seenK s.abs)=some (W.openGood viewK Vr):=seen_of (seenF1 w os) (seenF2 w os) (seenF3 w os)
theorem seenT (w:World) (os:OsState):((L2.goT PySem.Challenge.pw_makes_k05_whole_any_bytes 8816 (wK w true) os).map fun s=>seenK s.abs)=some (W.openGood viewK Vr):=seen_of (seenT1 w os) (seenT2 w os) (seenT3 w os)
theorem obsF (w:World) (os:OsState):((L2.goT PySem.Challenge.pw_makes_k05_whole_any_bytes 8816 (wK w false) os).map fun s=>hookK.obs s.abs)=some (hookK.val (wK w false)):=by kernel_rfl
theorem obsT (w:World) (os:OsState):((L2.goT PySem.Challenge.pw_makes_k05_whole_any_bytes 8816 (wK w true) os).map fun s=>hookK.obs s.abs)=some (hookK.val (wK w true)):=by kernel_rfl
theorem left_of (w:World) (h1:∀ os,((L2.goT PySem.Challenge.pw_makes_k05_whole_any_bytes 8816 w os).map fun s=>L2.chkT PySem.Challenge.pw_makes_k05_whole_any_bytes w s.abs)=some true) (h2:∀ os,((L2.goT PySem.Challenge.pw_makes_k05_whole_any_bytes 8816 w os).map fun s=>seenK s.abs)=some (W.openGood viewK Vr)) (h3:∀ os,((L2.goT PySem.Challenge.pw_makes_k05_whole_any_bytes 8816 w os).map fun s=>hookK.obs s.abs)=some (hookK.val w)):LeftAt w:=by
 obtain ⟨⟨hp,g,d,k,os⟩,hs,hv⟩:=Option.map_eq_some_iff.mp (W.boot_open (p:=PySem.Challenge.pw_makes_k05_whole_any_bytes) (N:=8816) rfl (by decide) (fun s=>rfl) w)
 simp only [Prod.mk.injEq] at hv
 obtain ⟨rfl,rfl,rfl,rfl⟩:=hv
 show Option.map _ (Option.bind (W.fencedOpening treeTable PySem.Challenge.pw_makes_k05_whole_any_bytes w 8816) (W.topFrom treeTable PySem.Challenge.pw_makes_k05_whole_any_bytes w 8816))=_
 rw [hs]
 exact L2.top_of (h1 os) (h2 os) (h3 os)
theorem leftF (w:World):LeftAt (w.withFollow "special-get-raises" false):=left_of _ (chkF w) (seenF w) (obsF w)
theorem leftT (w:World):LeftAt (w.withFollow "special-get-raises" true):=left_of _ (chkR w) (seenT w) (obsT w)
theorem leftK:W.LeftO PySem.Challenge.pw_makes_k05_whole_any_bytes viewK Vr xtK hookK.obs hookK.val 8816:=W.byRow2 "special-get-raises" leftF leftT
end K05
namespace L2
open PySem PySem.Spec PyProof.Rows
abbrev Key:=Sum Int Str
def keyIs:Key->Value->Bool
 | .inl k,v=>Value.isInt k v
 | .inr x,v=>Value.isStrOf x v
def keyH (w:World):Key->Int
 | .inl k=>hashInt k
 | .inr x=>hashStr w x
theorem Yo:∀ {k:Key} {v:Value},keyIs k v=true->(∃ i t,k=Sum.inl i/\v=Value.int i t)\/(∃ x t,k=Sum.inr x/\v=Value.str x t)
 | .inl i,v,h=>by
  obtain ⟨t,e⟩:=Value.isInt_shape (k:=i) (v:=v) h
  exact .inl ⟨i,t,rfl,e⟩
 | .inr x,v,h=>by
  obtain ⟨t,e⟩:=Value.isStrOf_shape (x:=x) (v:=v) h
  exact .inr ⟨x,t,rfl,e⟩
theorem keyIs_int (i:Int) (t:Tok):keyIs (.inl i) (.int i t)=true:=by simp [keyIs,Value.isInt]
theorem keyIs_str (x:Str) (t:Tok):keyIs (.inr x) (.str x t)=true:=by simp [keyIs,Value.isStrOf]
theorem key_ll (a b:Int):decide ((Sum.inl a:Key)=Sum.inl b)=(a == b):=by
 by_cases e:a=b
 ·subst e; simp
 ·have h:¬ (Sum.inl a:Key)=Sum.inl b:=fun q=>e (Sum.inl.inj q)
  rw [decide_eq_false h]
  exact (beq_eq_false_iff_ne.mpr e).symm
theorem key_rr (a b:Str):decide ((Sum.inr a:Key)=Sum.inr b)=decide (a=b):=by
 by_cases e:a=b
 ·subst e; simp
 ·have h:¬ (Sum.inr a:Key)=Sum.inr b:=fun q=>e (Sum.inr.inj q)
  rw [decide_eq_false h,decide_eq_false e]
theorem key_lr (a:Int) (b:Str):decide ((Sum.inl a:Key)=Sum.inr b)=false:=decide_eq_false (fun q=>nomatch q)
theorem key_rl (a:Str) (b:Int):decide ((Sum.inr a:Key)=Sum.inl b)=false:=decide_eq_false (fun q=>nomatch q)
def mixKind (prog:Program) (w:World):PySem.KeyKind prog w Key where
 is:=keyIs
 hash:=keyH w
 inj:=fun v a b ha hb=>by
  rcases Yo ha with ⟨i,t,rfl,rfl⟩ | ⟨x,t,rfl,rfl⟩
  ·rcases Yo hb with ⟨j,u,rfl,e⟩ | ⟨y,u,rfl,e⟩
   ·injection e with e1 _; rw [e1]
   ·exact nomatch e
  ·rcases Yo hb with ⟨j,u,rfl,e⟩ | ⟨y,u,rfl,e⟩
   ·exact nomatch e
   ·injection e with e1 _; rw [e1]
 byValue:=fun k v h=>by
  rcases Yo h with ⟨i,t,rfl,rfl⟩ | ⟨x,t,rfl,rfl⟩ <;> rfl
 pyHash:=fun hv h=>by
  rcases Yo hv with ⟨i,t,rfl,rfl⟩ | ⟨x,t,rfl,rfl⟩
  ·exact wpAny_pyHash_int h
  ·exact wpAny_pyHash_str h
 eqBool:=fun hu hv h=>by
  rcases Yo hu with ⟨i,t,rfl,rfl⟩ | ⟨x,t,rfl,rfl⟩
  ·rcases Yo hv with ⟨j,u,rfl,rfl⟩ | ⟨y,u,rfl,rfl⟩
   ·rw [key_ll] at h; exact wpAny_eqBool_int h
   ·rw [key_lr] at h; exact SeqAt.EqAt.int_str i t y u _ _ _ _ h
  ·rcases Yo hv with ⟨j,u,rfl,rfl⟩ | ⟨y,u,rfl,rfl⟩
   ·rw [key_rl] at h; exact SeqAt.EqAt.str_int x t j u _ _ _ _ h
   ·rw [key_rr] at h; exact wpAny_eqBool_str h
 «strs»:=fun k x t v h=>by
  rcases Yo h with ⟨i,u,rfl,e⟩ | ⟨y,u,rfl,e⟩
  ·exact nomatch e
  ·injection e with e1 _
   subst e1
   cases v <;> rfl
inductive V where
 | non | bl (b:Bool) | int (i:Int) | str (x:Str) | byt (b:Array UInt8) | flt (b:UInt64) | ref (a:Addr) | ty (n:String)
 deriving DecidableEq
def Yq:V->Value->Prop
 | .non,u=>u=Value.none
 | .bl b,u=>u=Value.bool b
 | .int i,u=>∃ t,u=Value.int i t
 | .str x,u=>∃ t,u=Value.str x t
 | .byt b,u=>∃ t,u=Value.bytes b t
 | .flt b,u=>∃ t,u=Value.float b t
 | .ref a,u=>u=Value.ref a
 | .ty n,u=>u=Value.type n
abbrev Z0:List V->List Value->Prop:=Paired Yq
theorem Z0.length {xs:List V} {us:List Value} (r:Z0 xs us):xs.length=us.length:=Paired.length r
theorem Z0.get:∀ {xs:List V} {us:List Value} {i:Nat} {x:V},Z0 xs us->xs[i]?=some x->∃ u,us[i]?=some u/\Yq x u
 | _,_,_,_,.nil,e=>by simp at e
 | _,_,0,_,.cons r _,e=>by simp at e; subst e; exact ⟨_,rfl,r⟩
 | _,_,i+1,x,.cons _ t,e=>by
  obtain ⟨u,h1,h2⟩:=Z0.get (i:=i) (x:=x) t (by simpa using e)
  exact ⟨u,by simpa using h1,h2⟩
theorem Z0.set {x:V} {u:Value} (r:Yq x u):∀ {xs:List V} {us:List Value} (i:Nat),Z0 xs us->Z0 (xs.set i x) (us.set i u)
 | _,_,_,.nil=>.nil
 | _,_,0,.cons _ t=>.cons r t
 | _,_,i+1,.cons q t=>.cons q (Z0.set r i t)
theorem Z0.append:∀ {xs ys:List V} {us ws:List Value},Z0 xs us->Z0 ys ws->Z0 (xs++ys) (us++ws)
 | _,_,_,_,.nil,s=>s
 | _,_,_,_,.cons r t,s=>.cons r (Z0.append t s)
theorem Z0.take:∀ {xs:List V} {us:List Value} (n:Nat),Z0 xs us->Z0 (xs.take n) (us.take n)
 | _,_,0,_=>.nil
 | _,_,_+1,.nil=>.nil
 | _,_,n+1,.cons r t=>.cons r (Z0.take n t)
theorem Z0.drop:∀ {xs:List V} {us:List Value} (n:Nat),Z0 xs us->Z0 (xs.drop n) (us.drop n)
 | _,_,0,r=>r
 | _,_,_+1,.nil=>.nil
 | _,_,n+1,.cons _ t=>Z0.drop n t
def RelO:Option V->Option Value->Prop
 | some v,some u=>Yq v u
 | none,none=>True
 | _,_=>False
def KV {κ:Type}:List (κ × V)->List (κ × Value)->Prop:=Paired fun (p:κ × V) (q:κ × Value)=>p.1=q.1/\Yq p.2 q.2
def kV:Key->V
 | .inl i=>.int i
 | .inr x=>.str x
inductive HO where
 | lst (xs:List V)
 | tup (xs:List V)
 | dK (kvs:List (Key × V)) | dT (kvs:List (List Key × V))
 | set (S:Int->Bool) (n:Nat)
 | ins (C dx:Addr) (fs:List (Str × V))
 | own (x:Addr)
 | xd (fs:List (Str × V))
 | met (f x:Addr)
 | rng (lo hi:Int)
 | frz (o:Obj) (u:HO)
 | tbl (ps:Array Value)
 | ext (φ:Heap->Prop)
abbrev Hp:=Addr->Option HO
def Z6 (H:Hp) (a:Addr) (o:HO):Hp:=fun b=>if b=a then some o else H b
theorem Zq {H:Hp} {a:Addr} {o:HO}:Z6 H a o a=some o:=by unfold Z6; rw [if_pos rfl]
theorem Zh {H:Hp} {a b:Addr} {o:HO} (h:b≠a):Z6 H a o b=H b:=by unfold Z6; rw [if_neg h]
theorem upd_upd {H:Hp} {a:Addr} {o u:HO}:Z6 (Z6 H a o) a u=Z6 H a u:=by
 funext b; unfold Z6; split <;> rfl
theorem Z5 {H:Hp} {a b:Addr} {o:HO} (h:H a=some o) (h':H b=none):a≠b:=by
 intro e; subst e; rw [h] at h'; cases h'
section
variable (P:Program) (w:World)
def Vk (H:Hp) (h:Heap) (a:Addr):HO->Prop
 | .lst xs=>xs.length<=sizeLine/\∃ (its:List Value) (n:Nat),Z0 xs its/\h.get? a=some { cls:=.type "list",data:=.seq its.toArray n }
 | .tup xs=>xs.length<=sizeLine/\∃ its:List Value,Z0 xs its/\IsTup h a its.toArray
 | .dK kvs=>kvs.length<=sizeLine/\(a == sysModules)=false/\∃ vs,KV kvs vs/\h.DictOf (mixKind P w) a vs
 | .dT kvs=>kvs.length<=sizeLine/\(a == sysModules)=false/\∃ xs:List (List Key × Addr × Value),
   Paired (fun (p:List Key × V) (q:List Key × Addr × Value)=>p.1=q.1/\H q.2.1=some (.tup (p.1.map kV))/\Yq p.2 q.2.2) kvs xs /\
   ∃ o es ep,h.get? a=some o/\o.ExactDict/\o.data=.dict es ep/\es.toList=xs.map (entryOfKey (tupleKind (mixKind P w)))/\(xs.map (·.1)).Nodup
 | .set S n=>h.SetOf (intKind P w) a S n
 | .ins C dx fs=>H dx=some (.own a)/\fs.length<=1000/\dx≠a/\h.get? a=some (W.instObj C dx) /\
   ∃ mA,h.Ns1 dx mA/\(∀ f,RelO (fs.lookup f) (mA f))/\PySem.Within mA (fs.map (·.1))
 | .own _=>∃ o,h.get? a=some o
 | .xd fs=>∃ mA,h.Ns1 a mA/\∀ f,RelO (fs.lookup f) (mA f)
 | .rng lo hi=>∃ t u v,h.get? a=some { cls:=.type "range",data:=.fields #[.int lo t,.int hi u,.int 1 v] }
 | .frz o u=>h.get? a=some o/\Vk H h a u
 | .tbl ps=>h.get? a=some { cls:=.none,data:=.fields ps }
 | .met f x=>h.get? a=some (W.methodObj (.ref f) (.ref x))
 | .ext φ=>φ h/\(∃ o,h.get? a=some o)/\∀ h1 h2:Heap,φ h1->(∀ o,h1.get? a=some o->h2.get? a=some o)->φ h2
def HOk (H:Hp) (h:Heap):Prop:=∀ a o,H a=some o->Vk P w H h a o
end
section
variable {P:Program} {w:World} {H H':Hp} {h h':Heap} {a:Addr} {o:HO}
theorem Vk.lt (x:Vk P w H h a o):a<h.objs.size:=by
 cases o with
 | lst xs=>obtain ⟨_,_,_,_,e⟩:=x; exact Heap.lt_size e
 | tup xs=>obtain ⟨_,_,_,p⟩:=x; exact p.lt
 | dK kvs=>obtain ⟨_,_,_,_,o,_,_,e,_⟩:=x; exact Heap.lt_size e
 | dT kvs=>obtain ⟨_,_,_,_,o,_,_,e,_⟩:=x; exact Heap.lt_size e
 | set S n=>obtain ⟨o,_,_,_,e,_⟩:=x; exact Heap.lt_size e
 | ins C dx fs=>obtain ⟨_,_,_,e,_⟩:=x; exact Heap.lt_size e
 | own y=>obtain ⟨_,e⟩:=x; exact Heap.lt_size e
 | xd fs=>obtain ⟨_,⟨_,_,_,e,_⟩,_⟩:=x; exact Heap.lt_size e
 | rng lo hi=>obtain ⟨_,_,_,e⟩:=x; exact Heap.lt_size e
 | frz ob u=>obtain ⟨e,_⟩:=x; exact Heap.lt_size e
 | tbl ps=>exact Heap.lt_size (show h.get? a=some _ from x)
 | met f y=>exact Heap.lt_size (show h.get? a=some _ from x)
 | ext φ=>obtain ⟨_,⟨_,e⟩,_⟩:=x; exact Heap.lt_size e
theorem Paired.mapP {α β:Type} {F G:α->β->Prop}:∀ {l₁:List α} {l₂:List β},Paired F l₁ l₂->(∀ a b,F a b->G a b)->Paired G l₁ l₂
 | _,_,.nil,_=>.nil
 | _,_,.cons r t,f=>.cons (f _ _ r) (Paired.mapP t f)
theorem Vk.stay (x:Vk P w H h a o) (k:∀ b u,(b=a\/H b=some (.own a))->h.get? b=some u->h'.get? b=some u)
  (ho:∀ b,H b=some (.own a)->H' b=some (.own a)) (ht:∀ b xs,H b=some (.tup xs)->H' b=some (.tup xs)):Vk P w H' h' a o:=by
 induction o with
 | lst xs=>obtain ⟨z,its,n,r,e⟩:=x; exact ⟨z,its,n,r,k _ _ (.inl rfl) e⟩
 | tup xs=>obtain ⟨z,its,r,ob,e,c⟩:=x; exact ⟨z,its,r,ob,k _ _ (.inl rfl) e,c⟩
 | dK kvs=>obtain ⟨z,y,vs,r,ob,es,ep,e,c⟩:=x; exact ⟨z,y,vs,r,ob,es,ep,k _ _ (.inl rfl) e,c⟩
 | dT kvs =>
  obtain ⟨z,y,xs,r,ob,es,ep,e,c⟩:=x
  exact ⟨z,y,xs,Paired.mapP r fun p q z=>⟨z.1,ht _ _ z.2.1,z.2.2⟩,ob,es,ep,k _ _ (.inl rfl) e,c⟩
 | set S n=>obtain ⟨ob,es,ep,t,e,c⟩:=x; exact ⟨ob,es,ep,t,k _ _ (.inl rfl) e,c⟩
 | ins C dx fs =>
  obtain ⟨d,z,ne,e,mA,⟨od,es,ep,e2,c⟩,r⟩:=x
  exact ⟨ho _ d,z,ne,k _ _ (.inl rfl) e,mA,⟨od,es,ep,k _ _ (.inr d) e2,c⟩,r⟩
 | own y=>obtain ⟨ob,e⟩:=x; exact ⟨ob,k _ _ (.inl rfl) e⟩
 | xd fs=>obtain ⟨mA,⟨od,es,ep,e,c⟩,r⟩:=x; exact ⟨mA,⟨od,es,ep,k _ _ (.inl rfl) e,c⟩,r⟩
 | rng lo hi=>obtain ⟨t,u,v,e⟩:=x; exact ⟨t,u,v,k _ _ (.inl rfl) e⟩
 | frz ob u ih=>obtain ⟨e,q⟩:=x; exact ⟨k _ _ (.inl rfl) e,ih q⟩
 | tbl ps =>
  have e:h.get? a=some { cls:=.none,data:=.fields ps }:=x
  show h'.get? a=some { cls:=.none,data:=.fields ps }
  exact k a _ (.inl rfl) e
 | met f y =>
  have e:h.get? a=some (W.methodObj (.ref f) (.ref y)):=x
  show h'.get? a=some (W.methodObj (.ref f) (.ref y))
  exact k a _ (.inl rfl) e
 | ext φ=>obtain ⟨p,⟨o,e⟩,st⟩:=x; exact ⟨st _ _ p fun o q=>k _ _ (.inl rfl) q,⟨o,k _ _ (.inl rfl) e⟩,st⟩
theorem HOk.lt (x:HOk P w H h) (e:H a=some o):a<h.objs.size:=(x a o e).lt
theorem HOk.fresh (x:HOk P w H h) (e:h.objs.size<=a):H a=none:=by
 cases q:H a with
 | none=>rfl
 | some u=>exact absurd (Nat.lt_of_lt_of_le (x.lt q) e) (Nat.lt_irrefl _)
theorem HOk.kept (x:HOk P w H h) (k:∀ b u,h.get? b=some u->h'.get? b=some u):HOk P w H h':=fun a o e =>
 (x a o e).stay (fun b u _ q=>k b u q) (fun _ q=>q) fun _ _ q=>q
theorem HOk.laid (x:HOk P w H h) (k:∀ b u,h.get? b=some u->h'.get? b=some u) (hp:h.objs.size<=a) (new:Vk P w (Z6 H a o) h' a o):HOk P w (Z6 H a o) h':=fun b u e=>by
 have hn:=x.fresh hp
 by_cases hb:b=a
 ·subst hb; rw [Zq] at e; cases e; exact new
 ·rw [Zh hb] at e
  exact (x b u e).stay (fun c v _ q=>k c v q) (fun c q=>by rw [Zh (Z5 q hn)]; exact q) fun c xs q=>by rw [Zh (Z5 q hn)]; exact q
end
def Rd (H:Hp) (a:Addr) (u:HO):Prop:=H a=some u\/∃ o,H a=some (.frz o u)
theorem Rd.of {H:Hp} {a:Addr} {u:HO} (h:H a=some u):Rd H a u:=.inl h
theorem Rd.ok {P:Program} {w:World} {H:Hp} {h:Heap} {a:Addr} {u:HO} (r:Rd H a u) (x:HOk P w H h):Vk P w H h a u:=by
 rcases r with r | ⟨o,r⟩
 ·exact x a u r
 ·obtain ⟨_,q⟩:=x a _ r
  exact q
def Mut:Option HO->Prop
 | some (.lst _)=>True
 | some (.dK _)=>True
 | some (.dT _)=>True
 | some (.set _ _)=>True
 | some (.ins _ _ _)=>True
 | some (.ext _)=>True
 | _=>False
section
variable {P:Program} {w:World} {H:Hp} {h h':Heap} {x e:Addr} {o':HO}
theorem HOk.write (ok:HOk P w H h) (mu:Mut (H x)) (he:e=x\/H e=some (.own x)) (k:∀ b u,b≠e->h.get? b=some u->h'.get? b=some u) (heo:∃ u,h'.get? e=some u)
  (new:Vk P w (Z6 H x o') h' x o'):HOk P w (Z6 H x o') h':=fun b u q=>by
 have nown:∀ c y,H c=some (.own y)->c≠x:=fun c y r z=>by subst z; rw [r] at mu; exact mu
 have ntup:∀ c xs,H c=some (.tup xs)->c≠x:=fun c xs r z=>by subst z; rw [r] at mu; exact mu
 by_cases hb:b=x
 ·subst hb; rw [Zq] at q; cases q; exact new
 ·rw [Zh hb] at q
  by_cases hbe:b=e
  ·have q':H b=some (.own x):=by
    rcases he with z | z
    ·exact absurd (hbe.trans z) hb
    ·rw [hbe]; exact z
   rw [q] at q'; cases q'
   obtain ⟨v,hv⟩:=heo
   exact ⟨v,by rw [hbe]; exact hv⟩
  ·refine (ok b u q).stay (fun c v hc r=>k c v ?_ r) (fun c r=>by rw [Zh (nown c b r)]; exact r) fun c xs r=>by rw [Zh (ntup c xs r)]; exact r
   rcases hc with rfl | hc
   ·exact hbe
   ·rintro rfl
    rcases he with z | z
    ·exact nown c b hc z
    ·rw [hc] at z; cases z; exact hb rfl
end
structure Un (fs ex:List Addr) (H H':Hp) (h h':Heap):Prop where
 keep:∀ b o,h.get? b=some o->H b=none->b ∉ fs->b ∉ ex->h'.get? b=some o
 slot:∀ b o,h.get? b=some o->H b=none->b∈fs->b ∉ ex->∃ sl,h'.get? b=some { o with slots:=sl }
 free:∀ b o,h.get? b=some o->H b=none->b ∉ ex->H' b=none
 there:∀ b o,h.get? b=some o->b ∉ ex->∃ o',h'.get? b=some o'
 tups:∀ b xs,H b=some (.tup xs)->H' b=some (.tup xs)
 frzs:∀ b o u,H b=some (.frz o u)->H' b=some (.frz o u)
 tbls:∀ b ps,H b=some (.tbl ps)->∃ more,H' b=some (.tbl (ps++more))
section
variable {fs fs' ex ex':List Addr} {H H1 H2:Hp} {h h1 h2 h':Heap} {a x e:Addr} {o:HO}
theorem Un.any (u:Un fs ex H H1 h h1) {b:Addr} {ob:Obj} (q:h.get? b=some ob) (n:H b=none) (hx:b ∉ ex):∃ sl,h1.get? b=some { ob with slots:=sl }:=by
 by_cases hb:b∈fs
 ·exact u.slot b ob q n hb hx
 ·exact ⟨ob.slots,u.keep b ob q n hb hx⟩
theorem Un.trans (a:Un fs ex H H1 h h1) (b:Un fs ex H1 H2 h1 h2):Un fs ex H H2 h h2 where
 keep:=fun c ob q n hc hx=>b.keep c ob (a.keep c ob q n hc hx) (a.free c ob q n hx) hc hx
 slot:=fun c ob q n hc hx=>by
  obtain ⟨sl,e1⟩:=a.slot c ob q n hc hx
  obtain ⟨sl',e2⟩:=b.slot c _ e1 (a.free c ob q n hx) hc hx
  exact ⟨sl',e2⟩
 free:=fun c ob q n hx=>by
  obtain ⟨o',e1⟩:=a.there c ob q hx
  exact b.free c o' e1 (a.free c ob q n hx) hx
 there:=fun c ob q hx=>by
  obtain ⟨o',e1⟩:=a.there c ob q hx
  exact b.there c o' e1 hx
 tups:=fun c xs q=>b.tups c xs (a.tups c xs q)
 frzs:=fun c ob xs q=>b.frzs c ob xs (a.frzs c ob xs q)
 tbls:=fun c ps q=>by
  obtain ⟨m1,e1⟩:=a.tbls c ps q
  obtain ⟨m2,e2⟩:=b.tbls c _ e1
  exact ⟨m1++m2,by rw [e2,Array.append_assoc]⟩
theorem Un.kept (k:∀ b u,h.get? b=some u->h'.get? b=some u):Un fs ex H H h h' :=
 ⟨fun b ob q _ _ _=>k b ob q,fun b ob q _ _ _=>⟨ob.slots,k b ob q⟩,fun _ _ _ n _=>n,fun b ob q _=>⟨ob,k b ob q⟩,fun _ _ q=>q,fun _ _ _ q=>q,fun _ ps q=>⟨#[],by rw [q]; simp⟩⟩
theorem Un.refl:Un fs ex H H h h:=Un.kept fun _ _ q=>q
theorem Un.laid (k:∀ b u,h.get? b=some u->h'.get? b=some u) (hp:h.objs.size<=a) (hn:H a=none):Un fs ex H (Z6 H a o) h h' where
 keep:=fun b u q _ _ _=>k b u q
 slot:=fun b u q _ _ _=>⟨u.slots,k b u q⟩
 free:=fun b u q n _=>by rw [Zh (Nat.ne_of_lt (Nat.lt_of_lt_of_le (Heap.lt_size q) hp))]; exact n
 there:=fun b u q _=>⟨u,k b u q⟩
 tups:=fun b xs q=>by rw [Zh (Z5 q hn)]; exact q
 frzs:=fun b u xs q=>by rw [Zh (Z5 q hn)]; exact q
 tbls:=fun b ps q=>⟨#[],by rw [Zh (Z5 q hn),q]; simp⟩
theorem Un.write (mu:Mut (H x)) (he:e=x\/H e=some (.own x)) (k:∀ b u,b≠e->h.get? b=some u->h'.get? b=some u) (heo:∃ u,h'.get? e=some u):Un fs ex H (Z6 H x o) h h':=by
 have hx:∀ b,H b=none->b≠x:=fun b n z=>by subst z; rw [n] at mu; exact mu
 have hb:∀ b,H b=none->b≠e:=fun b n z=>by
  subst z
  rcases he with r | r
  ·exact hx b n r
  ·rw [n] at r; cases r
 have hm:∀ b u,H b=some u->¬ Mut (some u)->b≠x:=fun b u q nm z=>by subst z; rw [q] at mu; exact nm mu
 refine ⟨fun b u q n _ _=>k b u (hb b n) q,fun b u q n _ _=>⟨u.slots,k b u (hb b n) q⟩,fun b u q n _=>by rw [Zh (hx b n)]; exact n,fun b u q _=>?_,
  fun b xs q=>by rw [Zh (hm b _ q fun z=>z)]; exact q,fun b u xs q=>by rw [Zh (hm b _ q fun z=>z)]; exact q,fun b ps q=>⟨#[],by rw [Zh (hm b _ q fun z=>z),q]; simp⟩⟩
 by_cases hbe:b=e
 ·subst hbe; exact heo
 ·exact ⟨u,k b u hbe q⟩
theorem Un.mono (u:Un fs ex H H1 h h1) (hs:∀ b∈fs,b∈fs') (hx:∀ b∈ex,b∈ex'):Un fs' ex' H H1 h h1 :=
 ⟨fun b ob q n hb he=>u.keep b ob q n (fun z=>hb (hs b z)) fun z=>he (hx b z),fun _ _ q n _ he=>u.any q n fun z=>he (hx _ z),fun b ob q n he=>u.free b ob q n fun z=>he (hx b z),fun b ob q he=>u.there b ob q fun z=>he (hx b z),u.tups,u.frzs,u.tbls⟩
end
def trk (h:Heap) (H:Hp):List Addr:=(List.range h.objs.size).filter fun a=>(H a).isSome
def hidT (h:Heap) (H:Hp):Heap:=W.hideAll h (trk h H)
theorem hidT_size (h:Heap) (H:Hp):(hidT h H).objs.size=h.objs.size:=W.hideAll_size _ _
theorem hidT_get {h:Heap} {H:Hp} {b:Addr} {o:Obj} (e:h.get? b=some o) (n:H b=none):(hidT h H).get? b=some o :=
 W.hideAll_get _ e fun hm=>by
  have q:(H b).isSome=true:=(List.mem_filter.mp hm).2
  rw [n] at q; simp at q
theorem of_hidT {h:Heap} {H:Hp} {b:Addr} {o:Obj} (e:(hidT h H).get? b=some o):h.get? b=some o/\H b=none:=by
 have e':h.get? b=some o:=W.of_hideAll (trk h H) e
 refine ⟨e', ?_⟩
 cases q:H b with
 | none=>rfl
 | some x =>
  have hm:b∈trk h H:=List.mem_filter.mpr ⟨List.mem_range.mpr (Heap.lt_size e'),by simp [q]⟩
  have z:(hidT h H).get? b=none:=W.hideAll_none (trk h H) hm
  rw [z] at e; cases e
def allNews (g h:Heap) (L:Addr):List (Addr × Obj):=(List.range h.objs.size).filterMap fun a=>if a=L\/(g.get? a).isSome=true then none else (h.get? a).map fun o=>(a,o)
def rest (g h:Heap) (L d:Addr):List (Addr × Obj):=(allNews g h L).filter fun p=>decide (p.1≠d)
structure Mod (K:W.Frag) (mg:Str->Option Value) (base:Heap):Prop where
 kin:K.In base
 glob:base.Ns mainGlobals mg
 blt:∃ mb,base.Ns builtinsNs mb/\∀ x:Str,x ≠ "__name__" -> mb x=bootBuiltins x
 nolimit:base.NoLimit
structure Cx where
 prog:Program
 w:World
 K:W.Frag
 mg:Str->Option Value
 base:Heap
 A:Around
 N:List Str
 s₀:Shared
 H₀:Hp
 env:Env
 outer:List Env
 stack:List Env
 ex:List Addr
 fn:Str->Bool
 calm:Bool
 pn:List (Addr × Obj)
 xe:Value->Shared->Prop
def frs (l:List Env):List Addr:=l.filterMap (·.frame)
abbrev Cx.fs (X:Cx):List Addr:=frs X.outer
def Vis (sc:Scope) (x:Str):Prop:=sc.names.lookup x=some .local\/sc.names.lookup x=some .cell\/sc.names.lookup x=some .free
def Loc (sc:Scope) (x:Str):Prop:=sc.names.lookup x=some .local\/sc.names.lookup x=some .cell
def Look (env:Env) (h:Heap) (m:Str->Option Value) (x:Str) (u:Value):Prop :=
 (env.kindOf x=some .local/\m x=some u)\/((env.kindOf x=some .cell\/env.kindOf x=some .free)/\∃ c,env.cells.lookup x=some c/\h.IsCell c (some u))
structure Cx.Ok (X:Cx):Prop where
 mod:Mod X.K X.mg X.base
 kind:X.env.scope.kind=.function
 glob:X.env.globals=mainGlobals
 blt:X.env.builtins=builtinsNs
 above:X.s₀.heap.objs.size<=X.env.locals
 inj:∀ x y c,X.env.cells.lookup x=some c->X.env.cells.lookup y=some c->x=y
 has:∀ x,(X.env.kindOf x=some .cell\/X.env.kindOf x=some .free)->∃ c,X.env.cells.lookup x=some c
 cab:∀ x c,X.fn x=true->X.env.cells.lookup x=some c->X.s₀.heap.objs.size<=c
 hd:X.calm=true->X.A.handled=none
 frames:X.A.frames=some X.stack
 stk:X.stack=X.outer\/(X.stack=X.env::X.outer/\X.env.frame=some X.env.locals)
 exf:∀ b∈X.ex,b≠X.env.locals/\∀ x c,X.env.cells.lookup x=some c->c≠b
 bs:∀ b o,X.base.get? b=some o->X.s₀.heap.get? b=some o/\X.H₀ b=none
 bsz:X.base.objs.size<=X.s₀.heap.objs.size
 noex:∀ b o,X.base.get? b=some o->b ∉ X.ex
 exfs:∀ b∈X.ex,b ∉ X.fs
 funs:X.s₀.heap.FunFrames X.base X.outer
 frf:∀ b∈X.fs,X.H₀ b=none
structure Zs (X:Cx) (pins:List (Addr × Obj)) (σ:List (Option V)) (H:Hp) (s:Shared):Prop where
 ok:X.Ok
 os:s.os=X.s₀.os
 bare:AllBare s.gens
 base:Un X.fs X.ex X.H₀ H X.s₀.heap s.heap
 loc:∃ m,s.heap.Ns X.env.locals m/\∀ (i:Nat) (x:Str) (v:V),X.N[i]?=some x->σ[i]?=some (some v)->Vis X.env.scope x->∃ u,Yq v u/\Look X.env s.heap m x u
 cell:∀ x c,X.env.cells.lookup x=some c->∃ v,s.heap.IsCell c v
 free:H X.env.locals=none
 freeC:∀ x c,X.env.cells.lookup x=some c->H c=none
 pin:∀ p∈X.pn++pins,s.heap.get? p.1=some p.2/\H p.1=none/\p.1≠X.env.locals/\p.1 ∉ X.fs/\∀ v,p.2.data≠.cell v
 hok:HOk X.prog X.w H s.heap
 len:σ.length=X.N.length
section
variable {X:Cx} {pins:List (Addr × Obj)} {σ:List (Option V)} {H H':Hp} {s:Shared} {h':Heap}
theorem Cx.Ok.nofr (ok:X.Ok) {b:Addr} {o:Obj} (e:X.base.get? b=some o):b ∉ X.fs:=fun hb=>by
 have:=(ok.funs.mem hb).1
 rw [e] at this; cases this
theorem Zs.bs (I:Zs X pins σ H s):∀ b o,X.base.get? b=some o->s.heap.get? b=some o/\H b=none:=fun b o e =>
 ⟨I.base.keep b o (I.ok.bs b o e).1 (I.ok.bs b o e).2 (I.ok.nofr e) (I.ok.noex b o e),I.base.free b o (I.ok.bs b o e).1 (I.ok.bs b o e).2 (I.ok.noex b o e)⟩
theorem Zs.bk (I:Zs X pins σ H s):∀ b o,X.base.get? b=some o->s.heap.get? b=some o:=fun b o e=>(I.bs b o e).1
theorem Zs.mod (I:Zs X pins σ H s):Mod X.K X.mg X.base:=I.ok.mod
theorem Zs.kIn (I:Zs X pins σ H s):X.K.In s.heap:=I.ok.mod.kin.keeps I.bk
theorem Zs.fr (I:Zs X pins σ H s):∃ m,Fr X.base X.env.locals s.heap m :=
 let ⟨m,hn,_⟩:=I.loc
 ⟨m,hn,I.bk,Nat.le_trans I.ok.bsz I.ok.above⟩
theorem Zs.lt (I:Zs X pins σ H s):X.env.locals<s.heap.objs.size:=let ⟨_,hn,_⟩:=I.loc; hn.lt
theorem Zs.sz (I:Zs X pins σ H s):X.s₀.heap.objs.size<=s.heap.objs.size:=Nat.le_trans I.ok.above (Nat.le_of_lt I.lt)
theorem Zs.nofs (I:Zs X pins σ H s) {a:Addr} (h:s.heap.objs.size<=a):a ∉ X.fs:=fun hb=>by
 obtain ⟨_,o,ho,_⟩:=I.ok.funs.mem hb
 exact absurd (Nat.lt_of_lt_of_le (Heap.lt_size ho) (Nat.le_trans I.sz h)) (Nat.lt_irrefl _)
theorem Zs.cne (I:Zs X pins σ H s):∀ x c,X.env.cells.lookup x=some c->c≠X.env.locals:=fun x c e z=>by
 obtain ⟨v,o,ho,hd⟩:=I.cell x c e
 obtain ⟨m,⟨o',es,ep,ho',hd',_⟩,_⟩:=I.loc
 rw [z,ho'] at ho; cases ho; rw [hd'] at hd; cases hd
theorem Zs.funs (I:Zs X pins σ H s):s.heap.FunFrames X.base X.outer:=by
 have all:∀ (l:List Env),(∀ b∈frs l,b∈X.fs)->X.s₀.heap.FunFrames X.base l->s.heap.FunFrames X.base l:=by
  intro l
  induction l with
  | nil=>intro _ _; trivial
  | cons env r ih =>
   intro hs hl
   obtain ⟨hk,⟨L,o,hf,hn,ho,hd⟩,hr⟩:=hl
   have hL:L∈X.fs:=hs L (by unfold frs; rw [List.filterMap_cons,hf]; exact List.mem_cons_self)
   obtain ⟨sl,e⟩:=I.base.slot L o ho (I.ok.frf L hL) hL fun z=>I.ok.exfs L z hL
   exact ⟨hk,⟨L,_,hf,hn,e,hd⟩,ih (fun b hb=>hs b (by unfold frs; rw [List.filterMap_cons,hf]; exact List.mem_cons_of_mem _ hb)) hr⟩
 exact all X.outer (fun _ hb=>hb) I.ok.funs
theorem Zs.stack (I:Zs X pins σ H s):s.heap.FunFrames X.base X.stack:=by
 rcases I.ok.stk with e | ⟨e,hf⟩
 ·rw [e]; exact I.funs
 ·rw [e]
  obtain ⟨m,hn,_⟩:=I.loc
  refine .cons (by rw [I.ok.kind]; decide) hf hn ?_ I.funs
  exact Heap.get?_none_of_le (Nat.le_trans I.ok.bsz I.ok.above)
theorem Zs.stkSub (I:Zs X pins σ H s):∀ b∈frs X.stack,b∈X.env.locals::X.fs:=fun b hb=>by
 rcases I.ok.stk with e | ⟨e,hf⟩
 ·rw [e] at hb; exact List.mem_cons_of_mem _ hb
 ·rw [e] at hb
  unfold frs at hb
  rw [List.filterMap_cons,hf] at hb
  exact hb
theorem Zs.stkFree (I:Zs X pins σ H s):∀ b∈frs X.stack,H b=none:=fun b hb=>by
 rcases List.mem_cons.mp (I.stkSub b hb) with e | hb
 ·rw [e]; exact I.free
 ·obtain ⟨_,o,ho,_⟩:=I.ok.funs.mem hb
  exact I.base.free b o ho (I.ok.frf b hb) fun z=>I.ok.exfs b z hb
theorem Zs.step {g':Array GenState} {t':Nat} {d':Drawn} {ch:List Addr} (I:Zs X pins σ H s)
  (hch:∀ b∈ch,(b∈X.ex\/X.s₀.heap.objs.size<=b)/\b≠X.env.locals/\(∀ x c,X.env.cells.lookup x=some c->c≠b)/\∀ p∈X.pn++pins,p.1≠b)
  (keep:∀ b o,b≠X.env.locals->b ∉ X.fs->b ∉ ch->s.heap.get? b=some o->H b=none->h'.get? b=some o)
  (slot:∀ b o,b≠X.env.locals->b∈X.fs->b ∉ ch->s.heap.get? b=some o->H b=none->∃ sl,h'.get? b=some { o with slots:=sl }) (free:∀ b o,b ∉ ch->s.heap.get? b=some o->H b=none->H' b=none)
  (there:∀ b o,b ∉ ch->s.heap.get? b=some o->∃ o',h'.get? b=some o')
  (tups:∀ b xs,H b=some (.tup xs)->H' b=some (.tup xs)) (frzs:∀ b o u,H b=some (.frz o u)->H' b=some (.frz o u)) (tbls:∀ b ps,H b=some (.tbl ps)->∃ more,H' b=some (.tbl (ps++more)))
  (ns:∀ m,s.heap.Ns X.env.locals m->h'.Ns X.env.locals m) (hok:HOk X.prog X.w H' h') (hg:AllBare g') :
  Zs X pins σ H' { s with heap:=h',gens:=g',drawn:=d',toks:=t' }:=by
 have neL:∀ b o,X.s₀.heap.get? b=some o->b≠X.env.locals:=fun b o e=>Nat.ne_of_lt (Nat.lt_of_lt_of_le (Heap.lt_size e) I.ok.above)
 have neC:∀ b o,X.s₀.heap.get? b=some o->b ∉ X.ex->b ∉ ch:=fun b o e hx hb=>by
  rcases (hch b hb).1 with z | z
  ·exact hx z
  ·exact absurd (Nat.lt_of_lt_of_le (Heap.lt_size e) z) (Nat.lt_irrefl _)
 have cellK:∀ x c,X.env.cells.lookup x=some c->∀ v,s.heap.IsCell c v->h'.IsCell c v:=fun x c e v ⟨o,ho,hd⟩=>by
  have nch:c ∉ ch:=fun z=>(hch c z).2.2.1 x c e rfl
  by_cases hc:c∈X.fs
  ·obtain ⟨sl,q⟩:=slot c o (I.cne x c e) hc nch ho (I.freeC x c e)
   exact ⟨_,q,hd⟩
  ·exact ⟨o,keep c o (I.cne x c e) hc nch ho (I.freeC x c e),hd⟩
 refine ⟨I.ok,I.os,hg,⟨fun b o e n hb hx=>?_,fun b o e n hb hx=>?_,fun b o e n hx=>?_,fun b o e hx=>?_,fun b xs e=>tups b xs (I.base.tups b xs e),fun b o xs e=>frzs b o xs (I.base.frzs b o xs e),fun b ps e=>?_⟩, ?_,fun x c e=>?_, ?_,fun x c e=>?_,fun p hp=>?_,hok,I.len⟩
 ·exact keep b o (neL b o e) hb (neC b o e hx) (I.base.keep b o e n hb hx) (I.base.free b o e n hx)
 ·obtain ⟨sl,e1⟩:=I.base.slot b o e n hb hx
  obtain ⟨sl',e2⟩:=slot b _ (neL b o e) hb (neC b o e hx) e1 (I.base.free b o e n hx)
  exact ⟨sl',e2⟩
 ·obtain ⟨o',e1⟩:=I.base.there b o e hx
  exact free b o' (neC b o e hx) e1 (I.base.free b o e n hx)
 ·obtain ⟨o',e1⟩:=I.base.there b o e hx
  exact there b o' (neC b o e hx) e1
 ·obtain ⟨m1,e1⟩:=I.base.tbls b ps e
  obtain ⟨m2,e2⟩:=tbls b _ e1
  exact ⟨m1++m2,by rw [e2,Array.append_assoc]⟩
 ·obtain ⟨m,hn,hl⟩:=I.loc
  refine ⟨m,ns m hn,fun i x v e1 e2 e3=>?_⟩
  obtain ⟨u,r,l⟩:=hl i x v e1 e2 e3
  refine ⟨u,r, ?_⟩
  rcases l with l | ⟨k,c,e,z⟩
  ·exact .inl l
  ·exact .inr ⟨k,c,e,cellK x c e _ z⟩
 ·obtain ⟨v,z⟩:=I.cell x c e
  exact ⟨v,cellK x c e v z⟩
 ·obtain ⟨m,⟨o,_,_,ho,_⟩,_⟩:=I.loc
  exact free _ o (fun z=>(hch _ z).2.1 rfl) ho I.free
 ·obtain ⟨v,o,ho,hd⟩:=I.cell x c e
  exact free c o (fun z=>(hch c z).2.2.1 x c e rfl) ho (I.freeC x c e)
 ·obtain ⟨e,n,ne,nf,d⟩:=I.pin p hp
  have nch:p.1 ∉ ch:=fun z=>(hch p.1 z).2.2.2 p hp rfl
  exact ⟨keep p.1 p.2 ne nf nch e n,free p.1 p.2 nch e n,ne,nf,d⟩
theorem Zs.un {t':Nat} (I:Zs X pins σ H s) (u:Un X.fs [] H H' s.heap h') (hok:HOk X.prog X.w H' h'):Zs X pins σ H' { s with heap:=h',toks:=t' }:=by
 obtain ⟨m,⟨o,es,ep,ho,r⟩,_⟩:=id I.loc
 obtain ⟨sl,hL⟩:=u.any ho I.free (by simp)
 exact I.step (g':=s.gens) (d':=s.drawn) (ch:=[]) (fun _ z=>nomatch z) (fun b o _ hb _ e n=>u.keep b o e n hb (by simp)) (fun b o _ hb _ e n=>u.slot b o e n hb (by simp)) (fun b o _ e n=>u.free b o e n (by simp)) (fun b o _ e=>u.there b o e (by simp)) u.tups u.frzs u.tbls (fun m' hm=>by
  obtain ⟨o',es',ep',ho',r'⟩:=hm
  rw [ho] at ho'; cases ho'
  exact ⟨_,es',ep',hL,r'⟩) hok I.bare
theorem Zs.call {g':Array GenState} {t':Nat} {d':Drawn} {ch:List Addr} (I:Zs X pins σ H s) (u:Un (frs X.stack) ch H H' s.heap h') (hok:HOk X.prog X.w H' h') (hg:AllBare g')
  (hch:∀ b∈ch,(b∈X.ex\/X.s₀.heap.objs.size<=b)/\b≠X.env.locals/\(∀ x c,X.env.cells.lookup x=some c->c≠b)/\∀ p∈X.pn++pins,p.1≠b) :
  Zs X pins σ H' { s with heap:=h',gens:=g',drawn:=d',toks:=t' }:=by
 obtain ⟨m,⟨o,es,ep,ho,r⟩,_⟩:=id I.loc
 obtain ⟨sl,hL⟩:=u.any ho I.free fun z=>(hch _ z).2.1 rfl
 exact I.step (ch:=ch) hch (fun b o hL hb hc e n=>u.keep b o e n (fun z=>(List.mem_cons.mp (I.stkSub b z)).elim hL hb) hc) (fun b o _ _ hc e n=>u.any e n hc) (fun b o hc e n=>u.free b o e n hc) (fun b o hc e=>u.there b o e hc) u.tups u.frzs u.tbls (fun m' hm=>by
  obtain ⟨o',es',ep',ho',r'⟩:=hm
  rw [ho] at ho'; cases ho'
  exact ⟨_,es',ep',hL,r'⟩) hok hg
theorem Zs.turned {t':Nat} {it:Addr} (I:Zs X pins σ H s) (k:∀ b o,b≠it->s.heap.get? b=some o->h'.get? b=some o) (hn:H it=none) (hL:it≠X.env.locals)
  (h1:it∈X.ex\/X.s₀.heap.objs.size<=it) (h2:∀ x c,X.env.cells.lookup x=some c->c≠it) (h3:∀ p∈X.pn++pins,p.1≠it):Zs X pins σ H { s with heap:=h',toks:=t' }:=by
 have nit:∀ b u,H b=some u->b≠it:=fun b u e z=>by rw [z,hn] at e; cases e
 refine I.step (g':=s.gens) (d':=s.drawn) (ch:=[it]) (fun b hb=>?_) (fun b o _ _ hc e _=>k b o (fun z=>hc (by simp [z])) e) (fun b o _ _ hc e _=>⟨o.slots,k b o (fun z=>hc (by simp [z])) e⟩) (fun _ _ _ _ n=>n)
  (fun b o hc e=>⟨o,k b o (fun z=>hc (by simp [z])) e⟩) (fun _ _ e=>e) (fun _ _ _ e=>e) (fun b ps e=>⟨#[],by rw [e]; simp⟩) (fun m hm=>?_) (fun b u e=>?_) I.bare
 ·have e:b=it:=by simpa using hb
  subst e
  exact ⟨h1,hL,h2,h3⟩
 ·obtain ⟨o,es,ep,ho,r⟩:=hm
  exact ⟨o,es,ep,k _ o (Ne.symm hL) ho,r⟩
 ·refine (I.hok b u e).stay (fun c v hc q=>k c v ?_ q) (fun _ q=>q) fun _ _ q=>q
  rcases hc with z | z
  ·rw [z]; exact nit b u e
  ·exact nit c _ z
theorem Zs.tok (I:Zs X pins σ H s) (t:Nat):Zs X pins σ H { s with toks:=t }:=I.un (h':=s.heap) (t':=t) Un.refl I.hok
theorem Zs.kept {t':Nat} (I:Zs X pins σ H s) (k:∀ b u,s.heap.get? b=some u->h'.get? b=some u):Zs X pins σ H { s with heap:=h',toks:=t' }:=I.un (Un.kept k) (I.hok.kept k)
theorem Zs.laid {a:Addr} {o:HO} {t':Nat} (I:Zs X pins σ H s) (k:∀ b u,s.heap.get? b=some u->h'.get? b=some u) (hp:s.heap.objs.size<=a) (new:Vk X.prog X.w (Z6 H a o) h' a o) :
  Zs X pins σ (Z6 H a o) { s with heap:=h',toks:=t' }:=I.un (Un.laid k hp (I.hok.fresh hp)) (I.hok.laid k hp new)
theorem Zs.write {x e:Addr} {o:HO} {t':Nat} (I:Zs X pins σ H s) (mu:Mut (H x)) (he:e=x\/H e=some (.own x)) (k:∀ b u,b≠e->s.heap.get? b=some u->h'.get? b=some u) (heo:∃ u,h'.get? e=some u)
  (new:Vk X.prog X.w (Z6 H x o) h' x o):Zs X pins σ (Z6 H x o) { s with heap:=h',toks:=t' }:=I.un (Un.write mu he k heo) (I.hok.write mu he k heo new)
theorem Zs.pins_of {pins':List (Addr × Obj)} (I:Zs X pins σ H s) (h:∀ p∈pins',s.heap.get? p.1=some p.2/\H p.1=none/\p.1≠X.env.locals/\p.1 ∉ X.fs/\∀ v,p.2.data≠.cell v):Zs X pins' σ H s :=
 ⟨I.ok,I.os,I.bare,I.base,I.loc,I.cell,I.free,I.freeC,fun p hp=>(List.mem_append.mp hp).elim (fun z=>I.pin p (List.mem_append_left _ z)) (h p),I.hok,I.len⟩
theorem nodup_ix {N:List Str} (hN:N.Nodup) {i j:Nat} {x:Str} (a:N[i]?=some x) (b:N[j]?=some x):i=j:=by
 obtain ⟨h1,e1⟩:=List.getElem?_eq_some_iff.mp a
 obtain ⟨h2,e2⟩:=List.getElem?_eq_some_iff.mp b
 exact (List.getElem_inj hN).mp (e1.trans e2.symm)
theorem store_ok2 {M:Model} {A:Around} {E:Value->Shared->Prop} {i:Nat} {x:Str} {v:V} {u:Value} {Q:Unit->Shared->Prop} (I:Zs X pins σ H s) (hN:X.N.Nodup) (hi:X.N[i]?=some x) (hx:Loc X.env.scope x) (r:Yq v u)
  (h:∀ s',Zs X pins (σ.set i (some v)) H s'->(∃ a,Heap.SameBut a s.heap s'.heap/\(a=X.env.locals\/X.env.cells.lookup x=some a))->Q () s') (hf:X.fn x=true\/X.env.scope.names.lookup x=some .local:=by first | exact .inl rfl | exact .inr rfl | assumption):wpAny M A (storeName X.env x u) Q E s:=by
 obtain ⟨m,hn,hl⟩:=id I.loc
 have hcls:(X.env.scope.kind == .class || (X.env.scope.kind == .module && X.env.locals != X.env.globals))=false:=by rw [I.ok.kind]; rfl
 have hiσ:i<σ.length:=by rw [I.len]; exact (List.getElem?_eq_some_iff.mp hi).1
 have cne:=I.cne
 have tracked:∀ {a:Addr} {h':Heap},(∃ o,s.heap.get? a=some o/\H a=none)->Heap.SameBut a s.heap h'->HOk X.prog X.w H h':=fun {a h'} ha hs b ob e=>by
  obtain ⟨_,_,hfree⟩:=ha
  refine (I.hok b ob e).stay (fun c w' hc q=>(hs.2 c ?_).trans q) (fun _ q=>q) fun _ _ q=>q
  rintro rfl
  rcases hc with rfl | hc
  ·rw [hfree] at e; cases e
  ·rw [hfree] at hc; cases hc
 rcases hx with hk | hk
 ·refine wpAny_storeName_local hk hn (fun h' hn' hs=>?_) hcls
  obtain ⟨oL,_,_,hoL,_⟩:=id hn
  refine h _ ⟨I.ok,I.os,I.bare,⟨fun b o e n hb hx=>?_,fun b o e n hb hx=>?_,I.base.free,fun b o e hx=>?_,I.base.tups,I.base.frzs,I.base.tbls⟩,⟨_,hn',fun j y v' e1 e2 e3=>?_⟩,fun y c e=>?_,I.free,I.freeC,fun p hp=>?_,tracked ⟨oL,hoL,I.free⟩ hs,by simpa using I.len⟩ ⟨_,hs,.inl rfl⟩
  ·exact (hs.2 b (Nat.ne_of_lt (Nat.lt_of_lt_of_le (Heap.lt_size e) I.ok.above))).trans (I.base.keep b o e n hb hx)
  ·obtain ⟨sl,e1⟩:=I.base.slot b o e n hb hx
   exact ⟨sl,(hs.2 b (Nat.ne_of_lt (Nat.lt_of_lt_of_le (Heap.lt_size e) I.ok.above))).trans e1⟩
  ·obtain ⟨o',e1⟩:=I.base.there b o e hx
   exact ⟨o',(hs.2 b (Nat.ne_of_lt (Nat.lt_of_lt_of_le (Heap.lt_size e) I.ok.above))).trans e1⟩
  ·by_cases hj:j=i
   ·subst hj
    rw [hi] at e1; cases e1
    rw [List.getElem?_set_self hiσ] at e2
    cases e2
    exact ⟨u,r,.inl ⟨hk,by simp⟩⟩
   ·rw [List.getElem?_set_ne (Ne.symm hj)] at e2
    obtain ⟨u',r',q⟩:=hl j y v' e1 e2 e3
    refine ⟨u',r', ?_⟩
    rcases q with ⟨k,e⟩ | ⟨k,c,e,z⟩
    ·refine .inl ⟨k, ?_⟩
     have:y≠x:=fun e=>hj (nodup_ix hN e1 (e ▸ hi))
     simp [this,e]
    ·exact .inr ⟨k,c,e,z.sameBut hs (cne y c e)⟩
  ·obtain ⟨w',z⟩:=I.cell y c e
   exact ⟨w',z.sameBut hs (cne y c e)⟩
  ·obtain ⟨e,n,ne,nf,d⟩:=I.pin p hp
   exact ⟨(hs.2 p.1 ne).trans e,n,ne,nf,d⟩
 ·have hfn:X.fn x=true:=by
   rcases hf with z | z
   ·exact z
   ·rw [z] at hk; cases hk
  obtain ⟨c,hc⟩:=I.ok.has x (.inl hk)
  obtain ⟨w',z⟩:=I.cell x c hc
  refine wpAny_storeName_cell I.ok.kind hk hc z (fun h' hc' hs=>?_)
  obtain ⟨oc,hoc,hocd⟩:=id z
  refine h { s with heap:=h' } ⟨I.ok,I.os,I.bare,⟨fun b o e n hb hx=>?_,fun b o e n hb hx=>?_,I.base.free,fun b o e hx=>?_,I.base.tups,I.base.frzs,I.base.tbls⟩,⟨m,hn.sameBut hs (Ne.symm (cne x c hc)),fun j y v' e1 e2 e3=>?_⟩,fun y c' e=>?_,I.free,I.freeC,fun p hp=>?_,tracked ⟨oc,hoc,I.freeC x c hc⟩ hs,by simpa using I.len⟩ ⟨c,hs,.inr hc⟩
  ·exact (hs.2 b (Nat.ne_of_lt (Nat.lt_of_lt_of_le (Heap.lt_size e) (I.ok.cab x c hfn hc)))).trans (I.base.keep b o e n hb hx)
  ·obtain ⟨sl,e1⟩:=I.base.slot b o e n hb hx
   exact ⟨sl,(hs.2 b (Nat.ne_of_lt (Nat.lt_of_lt_of_le (Heap.lt_size e) (I.ok.cab x c hfn hc)))).trans e1⟩
  ·obtain ⟨o',e1⟩:=I.base.there b o e hx
   exact ⟨o',(hs.2 b (Nat.ne_of_lt (Nat.lt_of_lt_of_le (Heap.lt_size e) (I.ok.cab x c hfn hc)))).trans e1⟩
  ·by_cases hj:j=i
   ·subst hj
    rw [hi] at e1; cases e1
    rw [List.getElem?_set_self hiσ] at e2
    cases e2
    exact ⟨u,r,.inr ⟨.inl hk,c,hc,hc'⟩⟩
   ·rw [List.getElem?_set_ne (Ne.symm hj)] at e2
    obtain ⟨u',r',q⟩:=hl j y v' e1 e2 e3
    refine ⟨u',r', ?_⟩
    rcases q with q | ⟨k,c',e,z'⟩
    ·exact .inl q
    ·refine .inr ⟨k,c',e,z'.sameBut hs ?_⟩
     rintro rfl
     exact hj (nodup_ix hN e1 (I.ok.inj _ _ _ e hc ▸ hi))
  ·by_cases hcc:c'=c
   ·subst hcc; exact ⟨_,hc'⟩
   ·obtain ⟨w2,z2⟩:=I.cell y c' e
    exact ⟨w2,z2.sameBut hs hcc⟩
  ·obtain ⟨e,n,ne,nf,d⟩:=I.pin p hp
   refine ⟨(hs.2 p.1 ?_).trans e,n,ne,nf,d⟩
   intro q
   rw [q,hoc] at e
   have q':oc=p.2:=Option.some.inj e
   exact d w' (by rw [<-q']; exact hocd)
theorem store_ok {M:Model} {A:Around} {E:Value->Shared->Prop} {i:Nat} {x:Str} {v:V} {u:Value} {Q:Unit->Shared->Prop} (I:Zs X pins σ H s) (hN:X.N.Nodup) (hi:X.N[i]?=some x) (hx:Loc X.env.scope x) (r:Yq v u)
  (h:∀ s',Zs X pins (σ.set i (some v)) H s'->Q () s') (hf:X.fn x=true\/X.env.scope.names.lookup x=some .local:=by first | exact .inl rfl | exact .inr rfl | assumption):wpAny M A (storeName X.env x u) Q E s :=
 store_ok2 I hN hi hx r (fun s' I' _=>h s' I') hf
theorem Zs.call' {s':Shared} {ch:List Addr} (I:Zs X pins σ H s) (ho:s'.os=s.os) (u:Un (frs X.stack) ch H H' s.heap s'.heap) (hok:HOk X.prog X.w H' s'.heap) (hg:AllBare s'.gens)
  (hch:∀ b∈ch,(b∈X.ex\/X.s₀.heap.objs.size<=b)/\b≠X.env.locals/\(∀ x c,X.env.cells.lookup x=some c->c≠b)/\∀ p∈X.pn++pins,p.1≠b):Zs X pins σ H' s':=by
 obtain ⟨h',g',d',t',o'⟩:=s'
 have e:o'=s.os:=ho
 subst e
 exact I.call (g':=g') (t':=t') (d':=d') u hok hg hch
end
abbrev XK:=Value->Option Addr->Hp->Prop
abbrev St:=List (Option V)
abbrev VK:=V->Hp->Prop
abbrev TE:=St->Hp->VK->Prop
abbrev TT:=St->Hp->(Bool->Hp->Prop)->Prop
abbrev TA:=St->Hp->(List V->Hp->Prop)->Prop
structure Ends where
 nx:St->Hp->Prop
 rt:VK
 bk:St->Hp->Prop:=fun _ _=>False
 ct:St->Hp->Prop:=fun _ _=>False
abbrev TS:=Ends->St->Hp->Prop
def EP (X:Cx) (pins:List (Addr × Obj)) (σ:St) (Q:VK) (u:Value) (s':Shared):Prop:=∃ v H',Zs X pins σ H' s'/\Yq v u/\Q v H'
def TP (X:Cx) (pins:List (Addr × Obj)) (σ:St) (Q:Bool->Hp->Prop) (b:Bool) (s':Shared):Prop:=∃ H',Zs X pins σ H' s'/\Q b H'
def AP (X:Cx) (pins:List (Addr × Obj)) (σ:St) (Q:List V->Hp->Prop) (us:List Value) (s':Shared):Prop:=∃ vs H',Zs X pins σ H' s'/\Z0 vs us/\Q vs H'
def SP (X:Cx) (pins:List (Addr × Obj)) (D:Ends) (f:Flow) (s':Shared):Prop :=
 match f with
 | .next=>∃ σ' H',Zs X pins σ' H' s'/\D.nx σ' H'
 | .brk=>∃ σ' H',Zs X pins σ' H' s'/\D.bk σ' H'
 | .cont=>∃ σ' H',Zs X pins σ' H' s'/\D.ct σ' H'
 | .ret u=>∃ v σ' H',Zs X pins σ' H' s'/\Yq v u/\D.rt v H'
def PE (X:Cx) (e:Expr) (t:TE):Prop :=
 ∀ (pins:List (Addr × Obj)) (s:Shared) (σ:St) (H:Hp) (Q:VK),Zs X pins σ H s->t σ H Q->wpAny (model X.prog X.w) X.A (eval e X.env) (EP X pins σ Q) X.xe s
def PT (X:Cx) (e:Expr) (t:TT):Prop :=
 ∀ (pins:List (Addr × Obj)) (s:Shared) (σ:St) (H:Hp) (Q:Bool->Hp->Prop),Zs X pins σ H s->t σ H Q->wpAny (model X.prog X.w) X.A (isTrue e X.env (eval e X.env)) (TP X pins σ Q) X.xe s
def PW (X:Cx) (e:Expr) (t:TT):Prop :=
 ∀ (whole:Sem Value) (pins:List (Addr × Obj)) (s:Shared) (σ:St) (H:Hp) (Q:Bool->Hp->Prop),Zs X pins σ H s->t σ H Q->wpAny (model X.prog X.w) X.A (isTrue e X.env whole) (TP X pins σ Q) X.xe s
theorem PW.pt {X:Cx} {e:Expr} {t:TT} (h:PW X e t):PT X e t:=h _
def PA (X:Cx) (es:List Expr) (t:TA):Prop :=
 ∀ (pos:Pos) (pins:List (Addr × Obj)) (s:Shared) (σ:St) (H:Hp) (Q:List V->Hp->Prop),Zs X pins σ H s->t σ H Q->wpAny (model X.prog X.w) X.A (spliced (backTo pos (starEach es X.env))) (AP X pins σ Q) X.xe s
def PS (X:Cx) (st:Stmt) (t:TS):Prop :=
 ∀ (pins:List (Addr × Obj)) (s:Shared) (σ:St) (H:Hp) (D:Ends),Zs X pins σ H s->t D σ H->wpAny (model X.prog X.w) X.A (exec st X.env) (SP X pins D) X.xe s
def PSs (X:Cx) (st:List Stmt) (t:TS):Prop :=
 ∀ (pins:List (Addr × Obj)) (s:Shared) (σ:St) (H:Hp) (D:Ends),Zs X pins σ H s->t D σ H->wpAny (model X.prog X.w) X.A (execs st X.env) (SP X pins D) X.xe s
theorem Vv {α:Type} {t:Sem α} {Q Q':α->Shared->Prop} {M:Model} {A:Around} {E:Value->Shared->Prop} {s:Shared} (h:wpAny M A t Q E s) (hQ:∀ a s,Q a s->Q' a s):wpAny M A t Q' E s:=wpAny_mono h hQ fun _ _ x=>x
section
variable {X:Cx}
def tVar (i:Nat):TE:=fun σ H Q=>∃ v,σ[i]?=some (some v)/\Q v H
def tC (v:V):TE:=fun _ H Q=>Q v H
theorem pe_var {i:Nat} {x:Str} {pos:Pos} (hN:X.N[i]?=some x) (hv:Vis X.env.scope x) (hd:(x == ("__debug__" : Str))=false:=by decide) (hcd:(x == ("__classdict__" : Str))=false:=by decide):PE X (.Name x pos) (tVar i):=by
 intro pins s σ H Q I h
 obtain ⟨v,e,h⟩:=h
 obtain ⟨m,hn,hl⟩:=I.loc
 obtain ⟨u,r,l⟩:=hl i x v hN e hv
 have fin:EP X pins σ Q u s:=⟨v,H,I,r,h⟩
 rcases l with ⟨hk,hm⟩ | ⟨hk,c,hc,hcell⟩
 ·exact wpAny_Name (wpAny_loadName_local I.ok.kind hk hn hm fin) hd
 ·rcases hk with hk | hk
  ·exact wpAny_Name (wpAny_loadName_cell I.ok.kind hk hc hcell fin) hd
  ·exact wpAny_Name (wpAny_loadName_free I.ok.kind hk hc hcell fin hcd) hd
theorem Zz {i j pos}:PE X (.Constant (.int i) j pos) (tC (.int i)):=fun _ _ _ H _ I h=>wpAny_Constant_int ⟨.int i,H,I.tok _,⟨_,rfl⟩,h⟩
theorem pe_bl {b j pos}:PE X (.Constant (.bool b) j pos) (tC (.bl b)):=fun _ _ _ H _ I h=>Constant_bool ⟨.bl b,H,I,rfl,h⟩
theorem Ys {j pos}:PE X (.Constant .none j pos) (tC .non):=fun _ _ _ H _ I h=>Constant_none ⟨.non,H,I,rfl,h⟩
theorem Zp {x j pos}:PE X (.Constant (.str x) j pos) (tC (.str x)):=fun _ _ _ H _ I h=>Calls.Constant_str ⟨.str x,H,I.tok _,⟨_,rfl⟩,h⟩
def Gl (X:Cx) (x:Str):Prop:=X.env.kindOf x=some .globalImplicit
theorem ld_glob {E:Value->Shared->Prop} {pins:List (Addr × Obj)} {s:Shared} {σ:St} {H:Hp} {x:Str} {u:Value} {pos:Pos} {Q:Value->Shared->Prop} (I:Zs X pins σ H s) (hg:Gl X x) (hm:X.mg x=some u) (h:Q u s)
  (hd:(x == ("__debug__" : Str))=false:=by decide):wpAny (model X.prog X.w) X.A (eval (.Name x pos) X.env) Q E s :=
 Calls.Name_function_global I.ok.kind hg (Calls.loadGlobal_global (by rw [I.ok.glob]; exact I.mod.glob.keeps I.bk) hm h) hd
theorem Ud {E:Value->Shared->Prop} {pins:List (Addr × Obj)} {s:Shared} {σ:St} {H:Hp} {x:Str} {u:Value} {pos:Pos} {Q:Value->Shared->Prop} (I:Zs X pins σ H s) (hg:Gl X x) (hm:X.mg x=none) (hv:bootBuiltins x=some u) (h:Q u s)
  (hn:x ≠ "__name__" := by decide) (hd:(x == ("__debug__" : Str))=false:=by decide):wpAny (model X.prog X.w) X.A (eval (.Name x pos) X.env) Q E s:=by
 obtain ⟨mb,h1,h2⟩:=I.mod.blt
 exact Calls.Name_function_global I.ok.kind hg (Calls.loadGlobal_builtin (by rw [I.ok.glob]; exact I.mod.glob.keeps I.bk) hm (by rw [I.ok.blt]; exact h1.keeps I.bk) ((h2 x hn).trans hv) h) hd
theorem pe_glob {x:Str} {v:V} {u:Value} {pos:Pos} (hg:Gl X x) (hm:X.mg x=some u) (r:Yq v u) (hd:(x == ("__debug__" : Str))=false:=by decide):PE X (.Name x pos) (tC v) :=
 fun _ _ _ H _ I h=>ld_glob I hg hm ⟨v,H,I,r,h⟩ hd
theorem pe_bltn {x:Str} {v:V} {u:Value} {pos:Pos} (hg:Gl X x) (hm:X.mg x=none) (hv:bootBuiltins x=some u) (r:Yq v u) (hn:x ≠ "__name__" := by decide) (hd:(x == ("__debug__" : Str))=false:=by decide):PE X (.Name x pos) (tC v) :=
 fun _ _ _ H _ I h=>Ud I hg hm hv ⟨v,H,I,r,h⟩ hn hd
variable {a b:Expr} {ta tb:TE} {pos:Pos}
def tB (t:TE):TT:=fun σ H Q=>t σ H fun x H1=>∃ c,x=.bl c/\Q c H1
theorem pt_val {e:Expr} {t:TE} (h:PE X e t) (he:∀ whole,isTrue e X.env whole=(do let v <-whole; standAt e.pos; holding [v] (truthy v)):=by intro _; rfl):PT X e (tB t):=by
 intro pins s σ H Q I hw
 refine isTrue_plain (Vv (h pins s σ H _ I hw) fun v s1 ⟨x,H1,I1,r1,q1⟩=>?_) (he _)
 obtain ⟨d,rfl,q⟩:=q1
 cases r1
 exact wpAny_truthy_bool ⟨H1,I1,q⟩
variable {tA tB':TT} {rest:List Expr}
def tAnd (t u:TT):TT:=fun σ H Q=>t σ H fun c H1=>if c=true then u σ H1 Q else Q false H1
def tOr (t u:TT):TT:=fun σ H Q=>t σ H fun c H1=>if c=true then Q true H1 else u σ H1 Q
def tNot (t:TT):TT:=fun σ H Q=>t σ H fun c H1=>Q (!c) H1
theorem pw_and1 (ha:PT X a tA):PW X (.BoolOp .And [a] pos) tA:=by
 intro wh pins s σ H Q I h
 refine isTrue_and (Vv (ha pins s σ H Q I h) fun c s1 e=>?_)
 cases c with
 | true=>exact isTrue_and_nil e
 | false=>exact e
theorem pw_or1 (ha:PT X a tA):PW X (.BoolOp .Or [a] pos) tA:=by
 intro wh pins s σ H Q I h
 refine isTrue_or (Vv (ha pins s σ H Q I h) fun c s1 e=>?_)
 cases c with
 | false=>exact isTrue_or_nil e
 | true=>exact e
theorem pw_and (ha:PT X a tA) (hb:PW X (.BoolOp .And (b::rest) pos) tB'):PW X (.BoolOp .And (a::b::rest) pos) (tAnd tA tB'):=by
 intro wh pins s σ H Q I h
 refine isTrue_and (Vv (ha pins s σ H _ I h) fun c s1 ⟨H1,I1,q1⟩=>?_)
 cases c with
 | true=>exact hb wh pins s1 σ H1 Q I1 q1
 | false=>exact ⟨H1,I1,q1⟩
theorem pw_or (ha:PT X a tA) (hb:PW X (.BoolOp .Or (b::rest) pos) tB'):PW X (.BoolOp .Or (a::b::rest) pos) (tOr tA tB'):=by
 intro wh pins s σ H Q I h
 refine isTrue_or (Vv (ha pins s σ H _ I h) fun c s1 ⟨H1,I1,q1⟩=>?_)
 cases c with
 | true=>exact ⟨H1,I1,q1⟩
 | false=>exact hb wh pins s1 σ H1 Q I1 q1
theorem pt_not (ha:PT X a tA):PT X (.UnaryOp .Not a pos) (tNot tA):=by
 intro pins s σ H Q I h
 exact isTrue_not (ha pins s σ H (fun c H1=>Q (!c) H1) I h)
def tAndV (ta tb:TE):TE:=fun σ H Q=>ta σ H fun x H1=>∃ c,x=.bl c/\if c=true then tb σ H1 Q else Q (.bl false) H1
def tOrV (ta tb:TE):TE:=fun σ H Q=>ta σ H fun x H1=>∃ c,x=.bl c/\if c=true then Q (.bl true) H1 else tb σ H1 Q
theorem pe_one {op} {t:TE} (h:PE X a t):PE X (.BoolOp op [a] pos) t:=fun pins s σ H Q I hw=>BoolOp_one (h pins s σ H Q I hw)
theorem pe_and (ha:PE X a ta) (hb:PE X (.BoolOp .And (b::rest) pos) tb):PE X (.BoolOp .And (a::b::rest) pos) (tAndV ta tb):=by
 intro pins s σ H Q I h
 refine BoolOp_and (Vv (ha pins s σ H _ I h) fun v s1 ⟨x,H1,I1,r1,q1⟩=>?_)
 obtain ⟨c,rfl,q1⟩:=q1
 cases r1
 refine wpAny_truthy_bool ?_
 cases c with
 | true=>exact hb pins s1 σ H1 Q I1 q1
 | false=>exact ⟨.bl false,H1,I1,rfl,q1⟩
theorem pe_or (ha:PE X a ta) (hb:PE X (.BoolOp .Or (b::rest) pos) tb):PE X (.BoolOp .Or (a::b::rest) pos) (tOrV ta tb):=by
 intro pins s σ H Q I h
 refine BoolOp_or (Vv (ha pins s σ H _ I h) fun v s1 ⟨x,H1,I1,r1,q1⟩=>?_)
 obtain ⟨c,rfl,q1⟩:=q1
 cases r1
 refine wpAny_truthy_bool ?_
 cases c with
 | false=>exact hb pins s1 σ H1 Q I1 q1
 | true=>exact ⟨.bl true,H1,I1,rfl,q1⟩
def tIf (t:TT) (ta tb:TE):TE:=fun σ H Q=>t σ H fun c H1=>if c=true then ta σ H1 Q else tb σ H1 Q
theorem pe_ifExp {c:Expr} (hc:PT X c tA) (ha:PE X a ta) (hb:PE X b tb):PE X (.IfExp c a b pos) (tIf tA ta tb):=by
 intro pins s σ H Q I h
 refine wpAny_IfExp (Vv (hc pins s σ H _ I h) fun d s1 ⟨H1,I1,q1⟩=>?_)
 cases d with
 | true=>exact ha pins s1 σ H1 Q I1 q1
 | false=>exact hb pins s1 σ H1 Q I1 q1
end
def Yc (K:W.Frag) (H:Hp) (a:Addr) (xs:List V):Prop :=
 Rd H a (.lst xs) \/
  ∃ (o:Obj) (its:Array Value) (n:Nat),K.lookup a=some o/\o.cls=.type "list" /\ o.dict=none/\o.data=.seq its n/\its.size<=sizeLine/\Z0 xs its.toList
def Yg (K:W.Frag) (H:Hp) (a:Addr) (xs:List V):Prop :=
 Rd H a (.tup xs) \/
  ∃ (o:Obj) (its:Array Value) (n:Nat),K.lookup a=some o/\o.cls=.type "tuple" /\ o.data=.seq its n/\its.size<=sizeLine/\Z0 xs its.toList
def absV:Value->Option V
 | .none=>some .non
 | .bool b=>some (.bl b)
 | .int i _=>some (.int i)
 | .str x _=>some (.str x)
 | .bytes b _=>some (.byt b)
 | .float b _=>some (.flt b)
 | .ref a=>some (.ref a)
 | .type n=>some (.ty n)
 | _=>none
theorem Yq.abs {x:V} {u:Value} (r:Yq x u):absV u=some x:=by
 cases x with
 | non=>cases r; rfl
 | bl _=>cases r; rfl
 | int _=>obtain ⟨t,rfl⟩:=r; rfl
 | str _=>obtain ⟨t,rfl⟩:=r; rfl
 | byt _=>obtain ⟨t,rfl⟩:=r; rfl
 | flt _=>obtain ⟨t,rfl⟩:=r; rfl
 | ref _=>cases r; rfl
 | ty _=>cases r; rfl
theorem Yq.inj {x y:V} {u:Value} (r:Yq x u) (q:Yq y u):x=y:=Option.some.inj (r.abs.symm.trans q.abs)
theorem Z0.inj:∀ {xs ys:List V} {us:List Value},Z0 xs us->Z0 ys us->xs=ys
 | _,_,_,.nil,.nil=>rfl
 | _,_,_,.cons r t,.cons r' t'=>by rw [r.inj r',Z0.inj t t']
section
variable {X:Cx} {pins:List (Addr × Obj)} {σ:St} {H:Hp} {s:Shared} {a:Addr} {xs ys:List V}
theorem Yc.of {K:W.Frag} (h:H a=some (.lst xs)):Yc K H a xs:=.inl (.inl h)
theorem Yg.of {K:W.Frag} (h:H a=some (.tup xs)):Yg K H a xs:=.inl (.inl h)
theorem Zs.list (I:Zs X pins σ H s) (h:Yc X.K H a xs):∃ its:List Value,Z0 xs its/\PlainL s.heap a its.toArray/\xs.length<=sizeLine:=by
 rcases h with h | ⟨o,its,n,hk,hc,hd,hs,hz,r⟩
 ·obtain ⟨z,its,n,r,e⟩:=h.ok I.hok
  exact ⟨its,r,⟨_,n,e,rfl,rfl,rfl⟩,z⟩
 ·refine ⟨its.toList,r,⟨o,n,I.kIn a o hk,hc,hd,by simpa using hs⟩, ?_⟩
  have e:=r.length
  simp only [Array.length_toList] at e
  omega
theorem Zs.tuple (I:Zs X pins σ H s) (h:Yg X.K H a xs):∃ its:List Value,Z0 xs its/\IsTup s.heap a its.toArray/\xs.length<=sizeLine:=by
 rcases h with h | ⟨o,its,n,hk,hc,hs,hz,r⟩
 ·obtain ⟨z,its,r,p⟩:=h.ok I.hok
  exact ⟨its,r,p,z⟩
 ·refine ⟨its.toList,r,⟨o,I.kIn a o hk,hc,n,by simpa using hs⟩, ?_⟩
  have e:=r.length
  simp only [Array.length_toList] at e
  omega
theorem Zs.list_inj (I:Zs X pins σ H s) (h:Yc X.K H a xs) (h':Yc X.K H a ys):xs=ys:=by
 obtain ⟨its,r,⟨o,n,e,_,_,d⟩,_⟩:=I.list h
 obtain ⟨its',r',⟨o',n',e',_,_,d'⟩,_⟩:=I.list h'
 rw [e] at e'; cases e'
 rw [d] at d'
 injection d' with d1 _
 have:its=its':=by simpa using congrArg Array.toList d1
 subst this
 exact r.inj r'
theorem Zs.tuple_inj (I:Zs X pins σ H s) (h:Yg X.K H a xs) (h':Yg X.K H a ys):xs=ys:=by
 obtain ⟨its,r,⟨o,e,_,n,d⟩,_⟩:=I.tuple h
 obtain ⟨its',r',⟨o',e',_,n',d'⟩,_⟩:=I.tuple h'
 rw [e] at e'; cases e'
 rw [d] at d'
 injection d' with d1 _
 have:its=its':=by simpa using congrArg Array.toList d1
 subst this
 exact r.inj r'
end
abbrev Cx.wish (X:Cx) (E:Value->Shared->Prop):Cx:={ X with xe:=E }
abbrev Cx.nox (X:Cx):Cx:=X.wish fun _ _=>False
theorem Cx.Ok.wish {X:Cx} (ok:X.Ok) (E:Value->Shared->Prop):(X.wish E).Ok :=
 ⟨ok.mod,ok.kind,ok.glob,ok.blt,ok.above,ok.inj,ok.has,ok.cab,ok.hd,ok.frames,ok.stk,ok.exf,ok.bs,ok.bsz,ok.noex,ok.exfs,ok.funs,ok.frf⟩
theorem Cx.Ok.unwish {X:Cx} {E:Value->Shared->Prop} (ok:(X.wish E).Ok):X.Ok :=
 ⟨ok.mod,ok.kind,ok.glob,ok.blt,ok.above,ok.inj,ok.has,ok.cab,ok.hd,ok.frames,ok.stk,ok.exf,ok.bs,ok.bsz,ok.noex,ok.exfs,ok.funs,ok.frf⟩
section
variable {X:Cx} {pins:List (Addr × Obj)} {σ:St} {H:Hp} {s:Shared} {E:Value->Shared->Prop}
theorem Zs.wish (I:Zs X pins σ H s) (E:Value->Shared->Prop):Zs (X.wish E) pins σ H s:=⟨I.ok.wish E,I.os,I.bare,I.base,I.loc,I.cell,I.free,I.freeC,I.pin,I.hok,I.len⟩
theorem Zs.unwish (I:Zs (X.wish E) pins σ H s):Zs X pins σ H s:=⟨I.ok.unwish,I.os,I.bare,I.base,I.loc,I.cell,I.free,I.freeC,I.pin,I.hok,I.len⟩
theorem SP.unwish {D:Ends} {f:Flow} {s':Shared} (h:SP (X.wish E) pins D f s'):SP X pins D f s':=by
 cases f with
 | next=>obtain ⟨σ',H',I,q⟩:=h; exact ⟨σ',H',I.unwish,q⟩
 | brk=>obtain ⟨σ',H',I,q⟩:=h; exact ⟨σ',H',I.unwish,q⟩
 | cont=>obtain ⟨σ',H',I,q⟩:=h; exact ⟨σ',H',I.unwish,q⟩
 | ret u=>obtain ⟨v,σ',H',I,r,q⟩:=h; exact ⟨v,σ',H',I.unwish,r,q⟩
theorem PSs.nox {st:List Stmt} {t:TS} (h:PSs X.nox st t):PSs X st t:=fun pins s σ H D I hw =>
 wpAny_mono (h pins s σ H D (I.wish _) hw) (fun _ _ q=>q.unwish) fun _ _ z=>False.elim z
end
section
variable {X:Cx} {st:Stmt} {rest:List Stmt} {t u:TS} {e:Expr} {te:TE} {pos:Pos}
def tNext:TS:=fun D σ H=>D.nx σ H
def tSeq (t u:TS):TS:=fun D σ H=>t { D with nx:=u D } σ H
theorem Zl:PSs X [] tNext:=fun _ _ σ H _ I h=>wpAny_execs_nil ⟨σ,H,I,h⟩
theorem Zj (h1:PS X st t) (h2:PSs X rest u):PSs X (st::rest) (tSeq t u):=by
 intro pins s σ H D I h
 refine wpAny_execs_cons (Vv (h1 pins s σ H { D with nx:=u D } I h) fun f s1 q=>?_)
 cases f with
 | next =>
  obtain ⟨σ',H',I',q⟩:=q
  exact h2 pins s1 σ' H' D I' q
 | ret v=>exact q
 | brk=>exact q
 | cont=>exact q
theorem Zv (h1:PS X st t):PSs X [st] t:=by
 intro pins s σ H D I h
 refine wpAny_execs_cons (Vv (h1 pins s σ H D I h) fun f s1 q=>?_)
 cases f with
 | next=>exact wpAny_execs_nil q
 | ret v=>exact q
 | brk=>exact q
 | cont=>exact q
theorem Zs.quiet {pins:List (Addr × Obj)} {σ:St} {H:Hp} {s:Shared} (I:Zs X pins σ H s):interactive X.env=false:=by simp [interactive,I.ok.kind]
def tDrop (te:TE):TS:=fun D σ H=>te σ H fun _ H1=>D.nx σ H1
theorem Yz (he:PE X e te) (hs:swapsWith e none pos.line X.env=pure false:=by rfl):PS X (.Expr e pos) (tDrop te):=by
 intro pins s σ H D I h
 exact wpAny_Expr_any (Vv (he pins s σ H _ I h) fun v s1 ⟨x,H1,I1,r1,q1⟩=>⟨σ,H1,I1,q1⟩) I.quiet hs
def tRet (te:TE):TS:=fun D σ H=>te σ H D.rt
theorem Zc (he:PE X e te):PS X (.Return (some e) pos) (tRet te):=by
 intro pins s σ H D I h
 exact wpAny_Return_some (Vv (he pins s σ H _ I h) fun v s1 ⟨x,H1,I1,r1,q1⟩=>⟨x,σ,H1,I1,r1,q1⟩)
def tIfS (c:TT) (t u:TS):TS:=fun D σ H=>c σ H fun b H1=>if b=true then t D σ H1 else u D σ H1
theorem Ze {c:Expr} {a b:List Stmt} {tc:TT} (hc:PT X c tc) (ha:PSs X a t) (hb:PSs X b u):PS X (.If c a b pos) (tIfS tc t u):=by
 intro pins s σ H D I h
 refine wpAny_If (Vv (hc pins s σ H _ I h) fun d s1 ⟨H1,I1,q1⟩=>?_)
 cases d with
 | true=>exact ha pins s1 σ H1 D I1 q1
 | false=>exact hb pins s1 σ H1 D I1 q1
end
abbrev TG:=V->St->Hp->(St->Hp->Prop)->Prop
abbrev TGs:=List V->St->Hp->(St->Hp->Prop)->Prop
def PG (X:Cx) (target:Expr) (t:TG):Prop :=
 ∀ (pins:List (Addr × Obj)) (s:Shared) (σ:St) (H:Hp) (v:V) (u:Value) (Q:St->Hp->Prop),Zs X pins σ H s->Yq v u->t v σ H Q ->
  wpAny (model X.prog X.w) X.A (assign target X.env u) (fun _ s'=>∃ σ' H',Zs X pins σ' H' s'/\Q σ' H') X.xe s
def PGs (X:Cx) (ts:List Expr) (t:TGs):Prop :=
 ∀ (pins:List (Addr × Obj)) (s:Shared) (σ:St) (H:Hp) (vs:List V) (us:List Value) (Q:St->Hp->Prop),Zs X pins σ H s->Z0 vs us->t vs σ H Q ->
  wpAny (model X.prog X.w) X.A (assignInOrder ((assignEach ts X.env).map (·.2)) us) (fun _ s'=>∃ σ' H',Zs X pins σ' H' s'/\Q σ' H') X.xe s
abbrev TSet:=V->V->V->Hp->(Hp->Prop)->Prop
def PSet (X:Cx) (t:TSet):Prop :=
 ∀ (pins:List (Addr × Obj)) (s:Shared) (σ:St) (H:Hp) (o i v:V) (ov iv u:Value) (Q:Hp->Prop),Zs X pins σ H s->Yq o ov->Yq i iv->Yq v u->t o i v H Q ->
  wpAny (model X.prog X.w) X.A (setItem ov iv u) (fun _ s'=>∃ H',Zs X pins σ H' s'/\Q H') X.xe s
section
variable {X:Cx} {pos:Pos}
def gName (i:Nat):TG:=fun v σ H Q=>Q (σ.set i (some v)) H
theorem pg_name {i:Nat} {x:Str} (hN:X.N.Nodup) (hi:X.N[i]?=some x) (hx:Loc X.env.scope x) (hf:X.fn x=true\/X.env.scope.names.lookup x=some .local:=by first | exact .inl rfl | exact .inr rfl | assumption):PG X (.Name x pos) (gName i):=by
 intro pins s σ H v u Q I r h
 exact wpAny_assign_Name (store_ok I hN hi hx r (fun s' I'=>⟨_,H,I',h⟩) hf)
def gNil:TGs:=fun vs σ H Q=>vs=[]/\Q σ H
def gCons (t:TG) (u:TGs):TGs:=fun vs σ H Q=>∃ v r,vs=v::r/\t v σ H fun σ' H'=>u r σ' H' Q
theorem pgs_nil:PGs X [] gNil:=by
 intro pins s σ H vs us Q I r h
 obtain ⟨e,h⟩:=h
 subst e
 cases r
 exact assignInOrder_nil ⟨σ,H,I,h⟩
theorem Vj {e:Expr} {es:List Expr} {t:TG} {u:TGs} (h1:PG X e t) (h2:PGs X es u)
  (hs:(assignEach (e::es) X.env).map (·.2)=assign e X.env::(assignEach es X.env).map (·.2):=by rfl):PGs X (e::es) (gCons t u):=by
 intro pins s σ H vs us Q I r h
 obtain ⟨v,vr,e1,h⟩:=h
 subst e1
 cases r with
 | cons r rr =>
  rw [hs]
  refine assignInOrder_cons (Vv (h1 pins s σ H _ _ _ I r h) fun _ s1 ⟨σ1,H1,I1,q1⟩=>?_)
  exact h2 pins s1 σ1 H1 _ _ Q I1 rr q1
def gTup (K:W.Frag) (n:Nat) (t:TGs):TG:=fun v σ H Q=>∃ a xs,v=.ref a/\Yg K H a xs/\xs.length=n/\t xs σ H Q
theorem pg_tup {es:List Expr} {k:Nat} {t:TGs} {n:Nat} (hc:X.calm=true) (h:PGs X es t)
  (hn:(assignEach es X.env).length=n:=by rfl) (hst:(assignEach es X.env).findIdx? (·.1)=none:=by rfl):PG X (.Tuple es k pos) (gTup X.K n t):=by
 intro pins s σ H v u Q I r hw
 obtain ⟨a,xs,e1,hq,hl,hw⟩:=hw
 subst e1
 cases r
 obtain ⟨its,rv,ht,hz⟩:=I.tuple hq
 refine assign_Tuple_tuple (I.ok.hd hc) ht (by simp [hn, <-hl,rv.length]) hst fun h' hx=>?_
 have I1:Zs X pins σ H { s with heap:=h' }:=I.kept (t':=s.toks) fun b o e=>hx b o (Nat.ne_of_lt (Heap.lt_size e)) e
 exact h pins _ σ H xs _ Q I1 (by simpa using rv) hw
def gSub (to ti:TE) (t:TSet):TG:=fun v σ H Q=>to σ H fun o H1=>ti σ H1 fun i H2=>t o i v H2 fun H3=>Q σ H3
theorem pg_sub {o i:Expr} {to ti:TE} {t:TSet} (ho:PE X o to) (hi:PE X i ti) (hs:PSet X t)
  (ha:∀ v,assign (.Subscript o i pos) X.env v=(do
   let ov <-holding [v] (eval o X.env)
   let iv <-holding [v,ov] (eval i X.env)
   standAt pos
   holding [v,ov,iv] (setItem ov iv v)
   release [v,ov,iv] []):=by intro _; rfl):PG X (.Subscript o i pos) (gSub to ti t):=by
 intro pins s σ H v u Q I r h
 rw [ha]
 refine wpAny_bind (wpAny_holding (Vv (ho pins s σ H _ I h) fun ov s1 ⟨x,H1,I1,r1,q1⟩=>?_))
 refine wpAny_bind (wpAny_holding (Vv (hi pins s1 σ H1 _ I1 q1) fun iv s2 ⟨y,H2,I2,r2,q2⟩=>?_))
 refine wpAny_bind (wpAny_standAt (wpAny_bind (wpAny_holding (Vv (hs pins s2 σ H2 x y v ov iv u _ I2 r1 r2 r q2) fun _ s3 ⟨H3,I3,q3⟩=>?_))))
 exact wpAny_release ⟨σ,H3,I3,q3⟩
def tAsg (te:TE) (g:TG):TS:=fun D σ H=>te σ H fun x H1=>g x σ H1 D.nx
theorem ps_asg {tg e:Expr} {te:TE} {g:TG} (he:PE X e te) (hg:PG X tg g) (hs:swapsWithSole [tg] e pos.line X.env=pure false:=by rfl) (hw:swappedStores [tg] e X.env=pure none:=by rfl)
  (h1:(assignEach [tg] X.env).map (·.2)=[assign tg X.env]:=by rfl):PS X (.Assign [tg] e pos) (tAsg te g):=by
 intro pins s σ H D I h
 refine wpAny_Assign_stores (Vv (he pins s σ H _ I h) fun v s1 ⟨x,H1,I1,r1,q1⟩=>?_) hs hw
 rw [h1]
 exact Vv (hg pins s1 σ H1 x v _ I1 r1 q1) fun _ s2 q=>q
theorem ps_set {i:Nat} {x:Str} {e:Expr} {te:TE} {pos':Pos} (hN:X.N.Nodup) (hi:X.N[i]?=some x) (hx:Loc X.env.scope x) (he:PE X e te) (hs:swapsWith e (some (.Name x pos')) pos.line X.env=pure false:=by rfl) (hf:X.fn x=true\/X.env.scope.names.lookup x=some .local:=by first | exact .inl rfl | exact .inr rfl | assumption) :
  PS X (.Assign [.Name x pos'] e pos) (tAsg te (gName i)):=by
 intro pins s σ H D I h
 refine wpAny_Assign_Name (Vv (he pins s σ H _ I h) fun v s1 ⟨y,H1,I1,r1,q1⟩=>?_) hs
 exact store_ok I1 hN hi hx r1 (fun s2 I2=>⟨_,H1,I2,q1⟩) hf
end
section
variable {X:Cx} {pos:Pos}
def tWhile (c:TT) (tb:TS):TS:=fun D σ H=>∃ W:Nat->St->Hp->Prop,(∃ m,W m σ H)/\∀ m σ H,W m σ H ->
 c σ H fun b H1=>if b=true then ∃ N:St->Hp->Prop,(∀ σ' H',N σ' H'->∃ m',m'<m/\W m' σ' H')/\tb { D with nx:=N,ct:=N,bk:=D.nx } σ H1 else D.nx σ H1
theorem ps_while {c:Expr} {body:List Stmt} {tc:TT} {tb:TS} (hp:PassesOwn (model X.prog X.w) X.A X.env X.xe) (hc:PT X c tc) (hb:PSs X body tb):PS X (.While c body [] pos) (tWhile tc tb):=by
 intro pins s σ H D I h
 obtain ⟨W,⟨m0,w0⟩,turn⟩:=h
 refine wpAny_While (codeAny_whileLoop (fun n s'=>∃ σ' H',Zs X pins σ' H' s'/\W n σ' H') ?_ m0 ⟨σ,H,I,w0⟩)
 rintro n s1 ⟨σ1,H1,I1,w1⟩
 refine wpAny_passesOwn hp (Vv (hc pins s1 σ1 H1 _ I1 (turn n σ1 H1 w1)) fun b s2 ⟨H2,I2,q2⟩=>?_)
 cases b with
 | true =>
  obtain ⟨N,hN,q2⟩:=q2
  rw [if_pos rfl]
  refine wpAny_passesOwn hp (Vv (hb pins s2 σ1 H2 _ I2 q2) fun f s3 q3=>?_)
  cases f with
  | next =>
   obtain ⟨σ3,H3,I3,n3⟩:=q3
   obtain ⟨m',hm,w3⟩:=hN σ3 H3 n3
   exact ⟨m',hm,σ3,H3,I3,w3⟩
  | cont =>
   obtain ⟨σ3,H3,I3,n3⟩:=q3
   obtain ⟨m',hm,w3⟩:=hN σ3 H3 n3
   exact ⟨m',hm,σ3,H3,I3,w3⟩
  | brk=>exact q3
  | ret v=>exact q3
 | false =>
  rw [if_neg Bool.false_ne_true]
  exact wpAny_execs_nil ⟨σ1,H2,I2,q2⟩
end
structure It where
 go:Nat->Hp->Prop
 yld:Nat->Hp->V->Hp->Prop
 stop:Nat->Hp->Prop
def FpOk (X:Cx) (pins:List (Addr × Obj)) (H:Hp) (b:Addr):Prop :=
 H b=none/\b≠X.env.locals/\b ∉ X.fs/\(b∈X.ex\/X.s₀.heap.objs.size<=b)/\(∀ x c,X.env.cells.lookup x=some c->c≠b)/\∀ p∈X.pn++pins,p.1≠b
theorem Zs.fpOk {X:Cx} {pins:List (Addr × Obj)} {σ:St} {H H':Hp} {s:Shared} {b:Addr} (I:Zs X pins σ H s) (hb:s.heap.objs.size<=b) (hn:H' b=none):FpOk X pins H' b:=by
 refine ⟨hn,Nat.ne_of_gt (Nat.lt_of_lt_of_le I.lt hb),I.nofs hb,.inr (Nat.le_trans I.sz hb),fun x c e z=>?_,fun p hp z=>?_⟩
 ·obtain ⟨v,q⟩:=I.cell x c e
  exact absurd (Nat.lt_of_lt_of_le q.lt (by rw [z]; exact hb)) (Nat.lt_irrefl _)
 ·exact absurd (Nat.lt_of_lt_of_le (Heap.lt_size (I.pin p hp).1) (by rw [z]; exact hb)) (Nat.lt_irrefl _)
structure Turn (P:Program) (w:World) (K:W.Frag) (tg:Expr) (J:It) (fp:List Addr) (it:Addr) (tn:Nat->Heap->Prop):Prop where
 mem:it∈fp
 obj:∀ i h,tn i h->∀ b∈fp,∃ o,h.get? b=some o/\∀ v,o.data≠.cell v
 keep:∀ i h h',tn i h->(∀ b∈fp,∀ o,h.get? b=some o->h'.get? b=some o)->tn i h'
 item:∀ (X:Cx),X.prog=P->X.w=w->X.K=K->X.calm=true->∀ (i:Nat) (pins:List (Addr × Obj)) (s:Shared) (σ:St) (H:Hp) (E:Value->Shared->Prop),Zs X pins σ H s->(∀ b∈fp,FpOk X pins H b)->tn i s.heap->J.go i H ->
  wpAny (model P w) X.A (pyNext (.ref it)) (fun r s1=>∃ u,r=some u /\
   wpAny (model P w) X.A (letOwnedTupleGo tg (.ref it) u) (fun _ s2=>∃ x H',Zs X pins σ H' s2/\Yq x u/\J.yld i H x H'/\tn (i+1) s2.heap/\∀ b∈fp,H' b=none) E s1) E s
 done:∀ (X:Cx),X.prog=P->X.w=w->X.K=K->X.calm=true->∀ (i:Nat) (pins:List (Addr × Obj)) (s:Shared) (σ:St) (H:Hp) (E:Value->Shared->Prop),Zs X pins σ H s->(∀ b∈fp,FpOk X pins H b)->tn i s.heap->J.stop i H ->
  wpAny (model P w) X.A (pyNext (.ref it)) (fun r s1=>r=none/\Zs X pins σ H s1) E s
 self:∀ (A:Around) (i:Nat) (s:Shared) (Q:Value->Shared->Prop) (E:Value->Shared->Prop),tn i s.heap->Q (.ref it) s->wpAny (model P w) A (pyIter (.ref it)) Q E s
abbrev TI:=St->Hp->(It->Hp->Prop)->Prop
def PIE (X:Cx) (pins:List (Addr × Obj)) (σ:St) (tg:Expr) (R:It->Hp->Prop) (itv:Value) (s2:Shared):Prop :=
 ∃ (it:Addr) (fp:List Addr) (tn:Nat->Heap->Prop) (J:It) (H':Hp),itv=.ref it/\Zs X pins σ H' s2/\Turn X.prog X.w X.K tg J fp it tn/\tn 0 s2.heap/\(∀ b∈fp,FpOk X pins H' b)/\R J H'
def PI (X:Cx) (tg iter:Expr) (wi:TI):Prop :=
 ∀ (pins:List (Addr × Obj)) (s:Shared) (σ:St) (H:Hp) (R:It->Hp->Prop),Zs X pins σ H s->wi σ H R ->
  wpAny (model X.prog X.w) X.A (eval iter X.env) (fun v s1=>wpAny (model X.prog X.w) X.A (pyIter v) (PIE X pins σ tg R) X.xe s1) X.xe s
theorem go_of {M:Model} {A:Around} {E:Value->Shared->Prop} {s:Shared} {tg:Expr} {it:Addr} {u:Value} {o:Obj} {n:String} {vs:Array Value} {Q:Unit->Shared->Prop} (ho:s.heap.get? it=some o) (hc:o.cls=.type n) (hd:o.data=.fields vs)
    (hn:["enumerate","zip","dict_itemiterator","dict_reverseitemiterator","odict_iterator","itertools.zip_longest","itertools.pairwise"].contains n=false) (hQ:Q () s):wpAny M A (letOwnedTupleGo tg (.ref it) u) Q E s:=by
  unfold letOwnedTupleGo
  cases tg <;> first
    | exact wpAny_pure hQ
    | (cases u <;> first
        | exact wpAny_pure hQ
        | (refine wpAny_bind (wpAny_load ho ?_)
           rw [hc,hd]
           show wpAny M A (if (["enumerate","zip","dict_itemiterator","dict_reverseitemiterator","odict_iterator","itertools.zip_longest","itertools.pairwise"].contains n && vs[0]? == some (rawInt _))=true then _ else _) Q E s
           rw [if_neg (by intro h; rw [hn,Bool.false_and] at h; cases h)]
           exact wpAny_pure hQ))
def Itt (K:W.Frag) (a:Addr):It :=
 ⟨fun i H=>∃ xs x,Yg K H a xs/\xs[i]?=some x,fun i H x H'=>H'=H/\∀ xs,Yg K H a xs->xs[i]?=some x,fun i H=>∃ xs,Yg K H a xs/\xs.length<=i⟩
def Itr (lo:Int) (n:Nat):It:=⟨fun i _=>i<n,fun i H x H'=>H'=H/\x=.int (lo+i),fun i _=>n<=i⟩
theorem turn_tuple {P:Program} {w:World} {K:W.Frag} {tg:Expr} (a it:Addr):Turn P w K tg (Itt K a) [it] it (fun i h=>h.IsTupleIter it a i) where
 mem:=by simp
 obj:=fun i h st b hb=>by
  have e:b=it:=by simpa using hb
  subst e
  obtain ⟨o,e,c,d⟩:=st
  exact ⟨o,e,fun v z=>by rw [d] at z; cases z⟩
 keep:=fun i h h' st k=>st.at fun o e=>k it (by simp) o e
 item:=by
  intro X hP hw hK hc i pins s σ H E I hf st hg
  subst hP hw hK
  obtain ⟨xs,x,hq,hx⟩:=hg
  obtain ⟨its,rv,p,hz⟩:=I.tuple hq
  obtain ⟨u,hu,ru⟩:=rv.get hx
  obtain ⟨f0,f1,f2,f3,f4,f5⟩:=hf it (by simp)
  refine wpAny_pyNext_tuple_item st (show s.heap.IsTuple a its.toArray from p) (x:=u) (by simpa using hu) fun h' st' sb=>?_
  have I1:Zs X pins σ H { s with heap:=h' }:=I.turned (t':=s.toks) (fun b o hb e=>(sb.2 b hb).trans e) f0 f1 f3 f4 f5
  obtain ⟨o,e,c,d⟩:=id st'
  exact ⟨u,rfl,go_of (s:={ s with heap:=h' }) e c d (by decide) ⟨x,H,I1,ru,⟨rfl,fun ys hy=>by rw [I.tuple_inj hy hq]; exact hx⟩,st',fun b hb=>(hf b hb).1⟩⟩
 done:=by
  intro X hP hw hK hc i pins s σ H E I hf st hg
  subst hP hw hK
  obtain ⟨xs,hq,hx⟩:=hg
  obtain ⟨its,rv,p,hz⟩:=I.tuple hq
  obtain ⟨f0,f1,f2,f3,f4,f5⟩:=hf it (by simp)
  have hl:=rv.length
  exact wpAny_pyNext_tuple_end (I.ok.hd hc) st (show s.heap.IsTuple a its.toArray from p) (by simp; omega) fun h' eb=>⟨rfl,I.turned (t':=s.toks) (fun b o hb e=>eb b o hb e) f0 f1 f3 f4 f5⟩
 self:=fun _ _ _ _ _ st h=>wpAny_pyIter_tupleiter st h
theorem turn_range {P:Program} {w:World} {K:PySem.W.Frag} {tg:Expr} (it:Addr) (lo:Int) (n:Nat):Turn P w K tg (Itr lo n) [it] it (fun i h=>IsRangeIter h it (lo+(i:Nat) * 1) ((n:Int) - (i:Nat)) 1) where
 mem:=by simp
 obj:=fun i h st b hb=>by
  have e:b=it:=by simpa using hb
  subst e
  exact ⟨_,st,fun v z=>by
   have z':Data.fields _=Data.cell v:=z
   cases z'⟩
 keep:=fun i h h' st k=>k it (by simp) _ st
 item:=by
  intro X hP hw hK hc i pins s σ H E I hf st hg
  subst hP hw hK
  obtain ⟨f0,f1,f2,f3,f4,f5⟩:=hf it (by simp)
  have W:=Walks.range (prog:=X.prog) (w:=X.w) (I.ok.hd hc) it lo 1 n
  refine W.item i s _ _ hg st fun v h' tk hv st' kk=>?_
  obtain ⟨t,rfl⟩:=hv
  have I1:Zs X pins σ H { s with heap:=h',toks:=tk }:=I.turned (fun b o hb e=>kk b o (by simpa using hb) e) f0 f1 f3 f4 f5
  refine ⟨_,rfl,go_of (s:={ s with heap:=h',toks:=tk }) (n:="range_iterator") st' rfl rfl (by decide) ⟨.int (lo+i),H,I1,⟨t, ?_⟩,⟨rfl,rfl⟩,st',fun b hb=>(hf b hb).1⟩⟩
  rw [Int.mul_one]
 done:=by
  intro X hP hw hK hc i pins s σ H E I hf st hg
  subst hP hw hK
  obtain ⟨f0,f1,f2,f3,f4,f5⟩:=hf it (by simp)
  exact wpAny_pyNext_range_end (I.ok.hd hc) st (by have:n<=i:=hg; omega) fun h' eb=>⟨rfl,I.turned (t':=s.toks) (fun b o hb e=>eb b o hb e) f0 f1 f3 f4 f5⟩
 self:=fun _ _ _ _ _ st h=>wpAny_pyIter_rangeiter st h
section
variable {X:Cx} {tg:Expr}
def iTup (K:W.Frag) (tl:TE):TI:=fun σ H R=>tl σ H fun x H1=>∃ a,x=.ref a/\(∃ xs,Yg K H1 a xs)/\R (Itt K a) H1
theorem pi_tup {l:Expr} {tl:TE} (hl:PE X l tl):PI X tg l (iTup X.K tl):=by
 intro pins s σ H R I h
 refine Vv (hl pins s σ H _ I h) fun v s1 ⟨x,H1,I1,r1,q1⟩=>?_
 obtain ⟨a,e,⟨xs,hq⟩,q⟩:=q1
 subst e
 cases r1
 obtain ⟨its,rv,p,hz⟩:=I1.tuple hq
 refine wpAny_pyIter_tuple (show s1.heap.IsTuple a its.toArray from p) ?_
 refine ⟨s1.heap.objs.size,[s1.heap.objs.size],_,_,H1,rfl,I1.kept (t':=s1.toks) fun b o e=>Heap.get?_push_of_some _ e,turn_tuple a _,⟨_,Heap.get?_push_size _ rfl,rfl,rfl⟩,fun b hb=>?_,q⟩
 have e:b=s1.heap.objs.size:=by simpa using hb
 subst e
 exact I1.fpOk (Nat.le_refl _) (I1.hok.fresh (Nat.le_refl _))
theorem range_it {pins:List (Addr × Obj)} {σ:St} {H:Hp} {s:Shared} {R:It->Hp->Prop} {E:Value->Shared->Prop} {lo hi:Int} {t u v:Tok} {tk:Nat} (I:Zs X pins σ H s) (h1:-(2 ^ 62)<=lo) (h2:lo<2 ^ 62) (h3:-(2 ^ 62)<=hi) (h4:hi<2 ^ 62)
  (q:R (Itr lo (hi - lo).toNat) H):wpAny (model X.prog X.w) X.A (pyIter (.ref s.heap.objs.size)) (PIE X pins σ tg R) E { s with heap:=s.heap.push { cls:=.type "range",data:=.fields #[.int lo t,.int hi u,.int 1 v] },toks:=tk }:=by
 refine wpAny_pyIter_range (IsRange.new ..) (small_one h1 h2 h3 h4) ?_
 have I1:Zs X pins σ H { s with heap:=s.heap.push { cls:=.type "range",data:=.fields #[.int lo t,.int hi u,.int 1 v] },toks:=tk }:=I.kept fun b o e=>Heap.get?_push_of_some _ e
 refine ⟨(s.heap.push { cls:=.type "range",data:=.fields #[.int lo t,.int hi u,.int 1 v] }).objs.size,[(s.heap.push { cls:=.type "range",data:=.fields #[.int lo t,.int hi u,.int 1 v] }).objs.size],_,_,H,rfl,
  I1.kept (t':=tk) fun b o e=>Heap.get?_push_of_some _ e,turn_range _ lo (hi - lo).toNat, ?_,fun b hb=>?_,q⟩
 ·have e1:lo+((0:Nat):Int) * 1=lo:=by simp
  have e2:(((hi - lo).toNat:Nat):Int) - ((0:Nat):Int)=Builtin.Range.rangeSize lo hi 1:=by rw [rangeSize_one]; split <;> omega
  show IsRangeIter _ _ (lo+((0:Nat):Int) * 1) ((((hi - lo).toNat:Nat):Int) - ((0:Nat):Int)) 1
  rw [e1,e2]
  exact Heap.get?_push_size _ rfl
 ·have e:b=(s.heap.push { cls:=.type "range",data:=.fields #[.int lo t,.int hi u,.int 1 v] }).objs.size:=by simpa using hb
  subst e
  exact I1.fpOk (Nat.le_refl _) (I1.hok.fresh (Nat.le_refl _))
def iRng1 (ta:TA):TI:=fun σ H R=>ta σ H fun vs H1=>∃ j:Int,vs=[.int j]/\-(2 ^ 62)<=j/\j<2 ^ 62/\R (Itr 0 j.toNat) H1
def iRng2 (ta:TA):TI:=fun σ H R=>ta σ H fun vs H1=>∃ i j:Int,vs=[.int i,.int j]/\(-(2 ^ 62)<=i/\i<2 ^ 62/\-(2 ^ 62)<=j/\j<2 ^ 62)/\R (Itr i (j - i).toNat) H1
theorem Yi {a:Expr} {ta:TA} {p pos:Pos} (hg:Gl X "range") (hm:X.mg "range" = none) (ha:PA X [a] ta) (hs:starEach [a] X.env=[(false,eval a X.env)]:=by rfl):PI X tg (.Call (.Name "range" p) [a] [] pos) (iRng1 ta):=by
 intro pins s σ H R I h
 refine Call_ (Ud I hg hm boot_range (callWith_type1 (Vv (ha pos pins s σ H _ I h) fun us s1 ⟨vs,H1,I1,r1,q1⟩=>?_) hs rfl))
 obtain ⟨j,e,q1,q2,q⟩:=q1
 subst e
 cases r1 with
 | cons r rr =>
  cases rr
  obtain ⟨t,rfl⟩:=r
  exact call_range_1 (range_it I1 (by omega) (by omega) q1 q2 (by simpa using q))
theorem pi_range2 {a b:Expr} {ta:TA} {p pos:Pos} (hg:Gl X "range") (hm:X.mg "range" = none) (ha:PA X [a,b] ta) (hs:starEach [a,b] X.env=[(false,eval a X.env),(false,eval b X.env)]:=by rfl) (hs2:starEach [b] X.env=[(false,eval b X.env)]:=by rfl) :
  PI X tg (.Call (.Name "range" p) [a,b] [] pos) (iRng2 ta):=by
 intro pins s σ H R I h
 refine Call_ (Ud I hg hm boot_range (callWith_type1 (Vv (ha pos pins s σ H _ I h) fun us s1 ⟨vs,H1,I1,r1,q1⟩=>?_) (by rw [hs,hs2]) (by rw [hs2]; rfl)))
 obtain ⟨i,j,e,⟨q1,q2,q3,q4⟩,q⟩:=q1
 subst e
 cases r1 with
 | cons r rr =>
  cases rr with
  | cons r' rr =>
   cases rr
   obtain ⟨t,rfl⟩:=r
   obtain ⟨t',rfl⟩:=r'
   exact call_range_2 (range_it I1 q1 q2 q3 q4 q)
def tFor (wi:TI) (g:TG) (tb:TS):TS:=fun D σ H=>wi σ H fun J H1=>∃ W:Nat->Nat->St->Hp->Prop,(∃ m,W 0 m σ H1)/\∀ i m σ H,W i m σ H ->
 (J.stop i H/\D.nx σ H)\/(J.go i H/\∃ N:St->Hp->Prop,(∀ σ' H',N σ' H'->∃ m',m'<m/\W (i+1) m' σ' H')/\∀ x H',J.yld i H x H'->g x σ H' fun σ2 H2=>tb { D with nx:=N,ct:=N,bk:=D.nx } σ2 H2)
def pinsAt (fp:List Addr) (h:Heap):List (Addr × Obj):=fp.filterMap fun b=>(h.get? b).map fun o=>(b,o)
theorem mem_pinsAt {fp:List Addr} {h:Heap} {b:Addr} {o:Obj} (hb:b∈fp) (e:h.get? b=some o):(b,o)∈pinsAt fp h:=List.mem_filterMap.mpr ⟨b,hb,by rw [e]; rfl⟩
theorem of_pinsAt {fp:List Addr} {h:Heap} {p:Addr × Obj} (hp:p∈pinsAt fp h):p.1∈fp/\h.get? p.1=some p.2:=by
 obtain ⟨b,hb,e⟩:=List.mem_filterMap.mp hp
 cases q:h.get? b with
 | none=>rw [q] at e; cases e
 | some o =>
  rw [q] at e
  have e':(b,o)=p:=Option.some.inj e
  subst e'
  exact ⟨hb,q⟩
theorem Zs.pinned {pins:List (Addr × Obj)} {σ:St} {H:Hp} {s:Shared} {fp:List Addr} (I:Zs X pins σ H s) (hf:∀ b∈fp,FpOk X pins H b) (ho:∀ b∈fp,∃ o,s.heap.get? b=some o/\∀ v,o.data≠.cell v):Zs X (pins++pinsAt fp s.heap) σ H s :=
 I.pins_of fun p hp=>(List.mem_append.mp hp).elim (fun z=>I.pin p (List.mem_append_right _ z)) fun z=>by
  obtain ⟨hb,e⟩:=of_pinsAt z
  obtain ⟨f0,f1,f2,_⟩:=hf p.1 hb
  obtain ⟨o,e',d⟩:=ho p.1 hb
  rw [e] at e'; cases e'
  exact ⟨e,f0,f1,f2,d⟩
theorem Zs.unpinned {pins pl:List (Addr × Obj)} {σ:St} {H:Hp} {s:Shared} (I:Zs X (pins++pl) σ H s):Zs X pins σ H s:=I.pins_of fun p hp=>I.pin p (List.mem_append_right _ (List.mem_append_left _ hp))
theorem ps_for {iter:Expr} {body:List Stmt} {wi:TI} {g:TG} {tb:TS} {pos:Pos} (hp:PassesOwn (model X.prog X.w) X.A X.env X.xe) (hc:X.calm=true) (hi:PI X tg iter wi) (hg:PG X tg g) (hb:PSs X body tb)
  (hs:∀ x,foldedSetIterable iter X.env x=pure x:=by intro _; rfl):PS X (.For tg iter body [] pos) (tFor wi g tb):=by
 intro pins s σ H D I h
 refine wpAny_For (Vv (hi pins s σ H _ I h) fun v s1 h1=>Vv h1 fun itv s2 h2=>?_) hs
 obtain ⟨it,fp,tn,J,H2,e,I2,T,st2,f2,W,⟨m0,w0⟩,turn⟩:=h2
 subst e
 have stat:∀ {H':Hp},(∀ b∈fp,H' b=none)->∀ b∈fp,FpOk X pins H' b:=fun hn b hb=>⟨hn b hb,(f2 b hb).2⟩
 refine codeAny_forLoop_any (fun n s'=>∃ i σ' H',Zs X pins σ' H' s'/\tn i s'.heap/\(∀ b∈fp,H' b=none)/\W i n σ' H') ?_ m0 ⟨0,σ,H2,I2,st2,fun b hb=>(f2 b hb).1,w0⟩
 rintro n s3 ⟨i,σ3,H3,I3,st3,fr3,w3⟩
 rcases turn i n σ3 H3 w3 with ⟨stop,qn⟩ | ⟨go,N,hN,step⟩
 ·refine wpAny_passesOwn hp (Vv (T.done X rfl rfl rfl hc i pins s3 σ3 H3 X.xe I3 (stat fr3) st3 stop) fun r s4 ⟨hr,I4⟩=>?_)
  subst hr
  exact wpAny_execs_nil ⟨σ3,H3,I4,qn⟩
 ·refine wpAny_passesOwn hp (Vv (T.item X rfl rfl rfl hc i pins s3 σ3 H3 X.xe I3 (stat fr3) st3 go) fun r s4 ⟨u,hr,h4⟩=>?_)
  subst hr
  refine wpAny_passesOwn hp (Vv h4 fun _ s5 ⟨x,H5,I5,r5,y5,st5,fr5⟩=>?_)
  have I5':=I5.pinned (stat fr5) (T.obj _ _ st5)
  refine wpAny_passesOwn hp (Vv (hg _ s5 σ3 H5 x u _ I5' r5 (step x H5 y5)) fun _ s6 ⟨σ6,H6,I6,q6⟩=>?_)
  refine wpAny_passesOwn hp (Vv (hb _ s6 σ6 H6 _ I6 q6) fun f s7 q7=>?_)
  have again:∀ {σ7:St} {H7:Hp},Zs X (pins++pinsAt fp s5.heap) σ7 H7 s7->N σ7 H7->∃ m,m<n/\∃ i σ' H',Zs X pins σ' H' s7/\tn i s7.heap/\(∀ b∈fp,H' b=none)/\W i m σ' H':=fun {σ7 H7} I7 n7=>by
   obtain ⟨m',hm,w7⟩:=hN σ7 H7 n7
   refine ⟨m',hm,i+1,σ7,H7,I7.unpinned,T.keep _ _ _ st5 fun b hb o e=>(I7.pin (b,o) (List.mem_append_right _ (List.mem_append_right _ (mem_pinsAt hb e)))).1,fun b hb=>?_,w7⟩
   obtain ⟨o,e,d⟩:=T.obj _ _ st5 b hb
   exact (I7.pin (b,o) (List.mem_append_right _ (List.mem_append_right _ (mem_pinsAt hb e)))).2.1
  cases f with
  | next=>obtain ⟨σ7,H7,I7,n7⟩:=q7; exact again I7 n7
  | cont=>obtain ⟨σ7,H7,I7,n7⟩:=q7; exact again I7 n7
  | brk=>obtain ⟨σ7,H7,I7,q7⟩:=q7; exact ⟨σ7,H7,I7.unpinned,q7⟩
  | ret v=>obtain ⟨x7,σ7,H7,I7,r7,q7⟩:=q7; exact ⟨x7,σ7,H7,I7.unpinned,r7,q7⟩
end
theorem for_tup {K:PySem.W.Frag} {a:Addr} {xs:List V} {g:TG} {tb:TS} {D:Ends} {σ:St} {H:Hp} (Pv:Nat->St->Hp->Prop) (h0:Pv 0 σ H) (hl:∀ i σ H,i<=xs.length->Pv i σ H->Yg K H a xs)
  (hs:∀ i x σ H,xs[i]?=some x->Pv i σ H->g x σ H fun σ2 H2=>tb { D with nx:=Pv (i+1),ct:=Pv (i+1),bk:=D.nx } σ2 H2) (hd:∀ σ H,Pv xs.length σ H->D.nx σ H) :
  ∃ W:Nat->Nat->St->Hp->Prop,(∃ m,W 0 m σ H)/\∀ i m σ H,W i m σ H ->
   ((Itt K a).stop i H/\D.nx σ H)\/((Itt K a).go i H/\∃ N:St->Hp->Prop,(∀ σ' H',N σ' H'->∃ m',m'<m/\W (i+1) m' σ' H')/\∀ x H',(Itt K a).yld i H x H'->g x σ H' fun σ2 H2=>tb { D with nx:=N,ct:=N,bk:=D.nx } σ2 H2):=by
 refine ⟨fun i m σ H=>m=xs.length - i/\i<=xs.length/\Pv i σ H,⟨xs.length,by simp,Nat.zero_le _,h0⟩, ?_⟩
 rintro i m σ H ⟨rfl,hi,p⟩
 have q:=hl i σ H hi p
 by_cases hlt:i<xs.length
 ·refine .inr ⟨⟨xs,xs[i],q,by simp [hlt]⟩,Pv (i+1),fun σ' H' p'=>⟨xs.length - (i+1),by omega,rfl,hlt,p'⟩,fun x H' y=>?_⟩
  obtain ⟨e,y⟩:=y
  subst e
  exact hs i x σ _ (y xs q) p
 ·have e:i=xs.length:=by omega
  subst e
  exact .inl ⟨⟨xs,q,Nat.le_refl _⟩,hd σ H p⟩
theorem V1 {lo:Int} {n:Nat} {g:TG} {tb:TS} {D:Ends} {σ:St} {H:Hp} (Pv:Nat->St->Hp->Prop) (h0:Pv 0 σ H)
  (hs:∀ i σ H,i<n->Pv i σ H->g (.int (lo+i)) σ H fun σ2 H2=>tb { D with nx:=Pv (i+1),ct:=Pv (i+1),bk:=D.nx } σ2 H2) (hd:∀ σ H,Pv n σ H->D.nx σ H) :
  ∃ W:Nat->Nat->St->Hp->Prop,(∃ m,W 0 m σ H)/\∀ i m σ H,W i m σ H ->
   ((Itr lo n).stop i H/\D.nx σ H)\/((Itr lo n).go i H/\∃ N:St->Hp->Prop,(∀ σ' H',N σ' H'->∃ m',m'<m/\W (i+1) m' σ' H')/\∀ x H',(Itr lo n).yld i H x H'->g x σ H' fun σ2 H2=>tb { D with nx:=N,ct:=N,bk:=D.nx } σ2 H2):=by
 refine ⟨fun i m σ H=>m=n - i/\i<=n/\Pv i σ H,⟨n,by simp,Nat.zero_le _,h0⟩, ?_⟩
 rintro i m σ H ⟨rfl,hi,p⟩
 by_cases hlt:i<n
 ·refine .inr ⟨hlt,Pv (i+1),fun σ' H' p'=>⟨n - (i+1),by omega,rfl,hlt,p'⟩,fun x H' y=>?_⟩
  obtain ⟨e,y⟩:=y
  subst e y
  exact hs i σ _ hlt p
 ·have e:i=n:=by omega
  subst e
  exact .inl ⟨Nat.le_refl _,hd σ H p⟩
theorem while_by {c:TT} {tb:TS} {D:Ends} {σ:St} {H:Hp} (Pv:St->Hp->Prop) (μ:St->Hp->Nat) (h0:Pv σ H)
  (hs:∀ σ H,Pv σ H->c σ H fun b H1=>if b=true then tb { D with nx:=fun σ' H'=>Pv σ' H'/\μ σ' H'<μ σ H,ct:=fun σ' H'=>Pv σ' H'/\μ σ' H'<μ σ H,bk:=D.nx } σ H1 else D.nx σ H1)
  (mono:∀ σ H Q Q',(∀ b H1,Q b H1->Q' b H1)->c σ H Q->c σ H Q'):tWhile c tb D σ H:=by
 refine ⟨fun m σ H=>m=μ σ H/\Pv σ H,⟨_,rfl,h0⟩, ?_⟩
 rintro m σ H ⟨rfl,p⟩
 refine mono σ H _ _ (fun b H1 q=>?_) (hs σ H p)
 cases b with
 | true=>exact ⟨_,fun σ' H' ⟨p',l⟩=>⟨_,l,rfl,p'⟩,q⟩
 | false=>exact q
abbrev R2:=V->V->Hp->VK->Prop
def OpR (X:Cx) (f:Value->Value->Sem Value) (r:R2):Prop :=
 ∀ (pins:List (Addr × Obj)) (s:Shared) (σ:St) (H:Hp) (x y:V) (v u:Value) (Q:VK),Zs X pins σ H s->Yq x v->Yq y u->r x y H Q ->
  wpAny (model X.prog X.w) X.A (f v u) (EP X pins σ Q) X.xe s
def UnR (X:Cx) (f:Value->Sem Value) (r:V->Hp->VK->Prop):Prop :=
 ∀ (pins:List (Addr × Obj)) (s:Shared) (σ:St) (H:Hp) (x:V) (v:Value) (Q:VK),Zs X pins σ H s->Yq x v->r x H Q ->
  wpAny (model X.prog X.w) X.A (f v) (EP X pins σ Q) X.xe s
def CallR (X:Cx) (f:Value) (r:List V->Hp->VK->Prop):Prop :=
 ∀ (pins:List (Addr × Obj)) (s:Shared) (σ:St) (H:Hp) (xs:List V) (us:List Value) (Q:VK),Zs X pins σ H s->Z0 xs us->r xs H Q ->
  wpAny (model X.prog X.w) X.A (call f us) (EP X pins σ Q) X.xe s
def tOp (r:R2) (ta tb:TE):TE:=fun σ H Q=>ta σ H fun x H1=>tb σ H1 fun y H2=>r x y H2 Q
def tUn (r:V->Hp->VK->Prop) (ta:TE):TE:=fun σ H Q=>ta σ H fun x H1=>r x H1 Q
def rI (C:Int->Int->Prop) (g:Int->Int->V):R2:=fun x y H Q=>∃ i j,x=.int i/\y=.int j/\C i j/\Q (g i j) H
def rI0 (g:Int->Int->V):R2:=fun x y H Q=>∃ i j,x=.int i/\y=.int j/\Q (g i j) H
def rU (g:Int->V):V->Hp->VK->Prop:=fun x H Q=>∃ i,x=.int i/\Q (g i) H
section
variable {X:Cx} {a b c:Expr} {ta tb tc:TE} {pos:Pos}
theorem binT (ha:PE X a ta) (hb:PE X b tb) {pins:List (Addr × Obj)} {s:Shared} {σ:St} {H:Hp} {R:V->V->Hp->Prop} (I:Zs X pins σ H s)
  (h:ta σ H fun x H1=>tb σ H1 fun y H2=>R x y H2) {Q:Value->Shared->Prop} {f:Value->Value->Sem Value}
  (hf:∀ v u s2 x y H2,Zs X pins σ H2 s2->Yq x v->Yq y u->R x y H2->wpAny (model X.prog X.w) X.A (f v u) Q X.xe s2) :
  wpAny (model X.prog X.w) X.A (eval a X.env) (fun v s₁=>wpAny (model X.prog X.w) X.A (eval b X.env) (fun u s₂=>wpAny (model X.prog X.w) X.A (f v u) Q X.xe s₂) X.xe s₁) X.xe s:=by
 refine Vv (ha pins s σ H _ I h) fun v s1 ⟨x,H1,I1,r1,q1⟩=>?_
 refine Vv (hb pins s1 σ H1 _ I1 q1) fun u s2 ⟨y,H2,I2,r2,q2⟩=>?_
 exact hf v u s2 x y H2 I2 r1 r2 q2
theorem Zg {op:Operator} {r:R2} (ho:OpR X (binaryOp op) r) (ha:PE X a ta) (hb:PE X b tb):PE X (.BinOp a op b pos) (tOp r ta tb):=by
 intro pins s σ H Q I h
 exact wpAny_BinOp (binT ha hb I h fun v u s2 x y H2 I2 rx ry q=>ho pins s2 σ H2 x y v u Q I2 rx ry q)
theorem pe_un {op:UnaryOp} {r:V->Hp->VK->Prop} (ho:UnR X (unaryOp op) r) (ha:PE X a ta):PE X (.UnaryOp op a pos) (tUn r ta):=by
 intro pins s σ H Q I h
 exact UnaryOp_ (Vv (ha pins s σ H _ I h) fun v s1 ⟨x,H1,I1,r1,q1⟩=>ho pins s1 σ H1 x v Q I1 r1 q1)
theorem opI {f:Value->Value->Sem Value} {C:Int->Int->Prop} {g:Int->Int->Int}
  (rule:∀ (i j:Int) (t u:Tok) (s:Shared) (Q:Value->Shared->Prop) (E:Value->Shared->Prop),C i j->Q (.int (g i j) s.toks) { s with toks:=s.toks+1 }->wpAny (model X.prog X.w) X.A (f (.int i t) (.int j u)) Q E s) :
  OpR X f (rI C fun i j=>.int (g i j)):=by
 intro pins s σ H x y v u Q I rx ry h
 obtain ⟨i,j,rfl,rfl,hc,q⟩:=h
 obtain ⟨t,rfl⟩:=rx
 obtain ⟨t',rfl⟩:=ry
 exact rule i j t t' s _ _ hc ⟨.int (g i j),H,I.tok _,⟨_,rfl⟩,q⟩
theorem opI0 {f:Value->Value->Sem Value} {g:Int->Int->Int}
  (rule:∀ (i j:Int) (t u:Tok) (s:Shared) (Q:Value->Shared->Prop) (E:Value->Shared->Prop),Q (.int (g i j) s.toks) { s with toks:=s.toks+1 }->wpAny (model X.prog X.w) X.A (f (.int i t) (.int j u)) Q E s) :
  OpR X f (rI0 fun i j=>.int (g i j)):=by
 intro pins s σ H x y v u Q I rx ry h
 obtain ⟨i,j,rfl,rfl,q⟩:=h
 obtain ⟨t,rfl⟩:=rx
 obtain ⟨t',rfl⟩:=ry
 exact rule i j t t' s _ _ ⟨.int (g i j),H,I.tok _,⟨_,rfl⟩,q⟩
theorem opB0 {f:Value->Value->Sem Value} {g:Int->Int->Bool}
  (rule:∀ (i j:Int) (t u:Tok) (s:Shared) (Q:Value->Shared->Prop) (E:Value->Shared->Prop),Q (.bool (g i j)) s->wpAny (model X.prog X.w) X.A (f (.int i t) (.int j u)) Q E s) :
  OpR X f (rI0 fun i j=>.bl (g i j)):=by
 intro pins s σ H x y v u Q I rx ry h
 obtain ⟨i,j,rfl,rfl,q⟩:=h
 obtain ⟨t,rfl⟩:=rx
 obtain ⟨t',rfl⟩:=ry
 exact rule i j t t' s _ _ ⟨.bl (g i j),H,I,rfl,q⟩
def CDiv (i j:Int):Prop:=0<j/\j<1073741824
def CPow (i j:Int):Prop:=0<=j/\j<=1000000/\i.natAbs<2 ^ 64
def CMul (i j:Int):Prop:=(-(2 ^ 64)<i/\i<2 ^ 64)\/(-(2 ^ 64)<j/\j<2 ^ 64)
theorem CMul.ok {i j:Int} (h:CMul i j):IntMulOk i j:=by
 rcases h with ⟨h1,h2⟩ | ⟨h1,h2⟩
 ·exact .of_left (intBits_le_64 h1 h2)
 ·exact .of_right (intBits_le_64 h1 h2)
theorem Yx:OpR X (binaryOp .Add) (rI0 fun i j=>.int (i+j)):=opI0 fun _ _ _ _ _ _ _ q=>add_int q
theorem Y9:OpR X (binaryOp .Sub) (rI0 fun i j=>.int (i - j)):=opI0 fun _ _ _ _ _ _ _ q=>sub_int q
theorem Vl:OpR X (binaryOp .Mult) (rI CMul fun i j=>.int (i * j)):=opI fun _ _ _ _ _ _ _ hc q=>mul_int q hc.ok
theorem op_fdiv:OpR X (binaryOp .FloorDiv) (rI CDiv fun i j=>.int (i / j)):=opI fun i j _ _ _ _ _ hc q=>by
 have h1:(0:Int)<j:=hc.1
 have h2:j<1073741824:=hc.2
 exact floordiv_int (by omega) (by rw [Int.fdiv_eq_ediv_of_nonneg i (by omega)]; exact q) (.inl (PyProof.noPylong_small (by omega)))
theorem Vi:OpR X (binaryOp .Mod) (rI (fun _ j=>0<j) fun i j=>.int (i % j)):=opI fun i j _ _ _ _ _ hc q=>by
 have h1:(0:Int)<j:=hc
 exact mod_int' (by omega) (by rw [Int.fmod_eq_emod_of_nonneg i (by omega)]; exact q)
theorem op_pow:OpR X (binaryOp .Pow) (rI CPow fun i j=>.int (i ^ j.toNat)):=opI fun _ _ _ _ _ _ _ hc q=>pow_int_small hc.1 hc.2.1 hc.2.2 q
theorem unI {f:Value->Sem Value} {g:Int->Int}
  (rule:∀ (i:Int) (t:Tok) (s:Shared) (Q:Value->Shared->Prop) (E:Value->Shared->Prop),Q (.int (g i) s.toks) { s with toks:=s.toks+1 }->wpAny (model X.prog X.w) X.A (f (.int i t)) Q E s) :
  UnR X f (rU fun i=>.int (g i)):=by
 intro pins s σ H x v Q I rx h
 obtain ⟨i,rfl,q⟩:=h
 obtain ⟨t,rfl⟩:=rx
 exact rule i t s _ _ ⟨.int (g i),H,I.tok _,⟨_,rfl⟩,q⟩
theorem un_neg:UnR X (unaryOp .USub) (rU fun i=>.int (-i)):=unI fun _ _ _ _ _ q=>neg_int q
end
def scal:V->V->Bool
 | .non,.non=>true | .non,.int _=>true | .int _,.non=>true | .non,.bl _=>true | .bl _,.non=>true | .non,.str _=>true | .str _,.non=>true
 | .int _,.int _=>true | .bl _,.bl _=>true | .str _,.str _=>true | .byt _,.byt _=>true
 | .int _,.str _=>true | .str _,.int _=>true | .bl _,.str _=>true | .str _,.bl _=>true
 | _,_=>false
def rEq:R2:=fun x y H Q=>scal x y=true/\Q (.bl (decide (x=y))) H
def rNe:R2:=fun x y H Q=>scal x y=true/\Q (.bl (!decide (x=y))) H
theorem Yd {i j:Int}:decide (V.int i=V.int j)=(i == j):=by
 rw [Bool.eq_iff_iff]
 simp
theorem dec_bl {i j:Bool}:decide (V.bl i=V.bl j)=(i == j):=by
 rw [Bool.eq_iff_iff]
 simp
theorem dec_str {i j:Str}:decide (V.str i=V.str j)=(i == j):=by
 rw [Bool.eq_iff_iff]
 simp
theorem dec_byt {i j:Array UInt8}:decide (V.byt i=V.byt j)=(i.toList == j.toList):=by
 rw [Bool.eq_iff_iff]
 cases i
 cases j
 simp
section
variable {X:Cx} {a b c:Expr} {ta tb tc:TE} {pos:Pos}
theorem Yk {pins:List (Addr × Obj)} {σ:St} {H:Hp} {s:Shared} {Q:VK} {k k':Bool} (I:Zs X pins σ H s) (q:Q (.bl k) H) (e:k=k'):EP X pins σ Q (.bool k') s:=by
 subst e
 exact ⟨.bl k,H,I,rfl,q⟩
theorem Ym:OpR X (compareOp .Eq) rEq:=by
 intro pins s σ H x y v u Q I rx ry h
 obtain ⟨hs,q⟩:=h
 cases x with
 | non =>
  cases rx
  cases y with
  | non=>cases ry; exact PySem.EqNone.eq_none_none (Yk I q (by simp))
  | bl j=>cases ry; exact PySem.EqNone.eq_none_bool (Yk I q (by simp))
  | int j=>obtain ⟨t',rfl⟩:=ry; exact PySem.EqNone.eq_none_int (Yk I q (by simp))
  | str j=>obtain ⟨t',rfl⟩:=ry; exact PySem.EqNone.eq_none_str (Yk I q (by simp))
  | _=>exact absurd (show false=true from hs) Bool.false_ne_true
 | bl i =>
  cases rx
  cases y with
  | non=>cases ry; exact PySem.EqNone.eq_bool_none (Yk I q (by simp))
  | bl j=>cases ry; exact eq_bool (Yk I q dec_bl)
  | str j=>obtain ⟨t',rfl⟩:=ry; exact PySem.EqMixed.eq_bool_str (Yk I q (by simp))
  | _=>exact absurd (show false=true from hs) Bool.false_ne_true
 | int i =>
  obtain ⟨t,rfl⟩:=rx
  cases y with
  | non=>cases ry; exact PySem.EqNone.eq_int_none (Yk I q (by simp))
  | int j=>obtain ⟨t',rfl⟩:=ry; exact eq_int (Yk I q Yd)
  | str j=>obtain ⟨t',rfl⟩:=ry; exact PySem.EqMixed.eq_int_str (Yk I q (by simp))
  | _=>exact absurd (show false=true from hs) Bool.false_ne_true
 | str i =>
  obtain ⟨t,rfl⟩:=rx
  cases y with
  | non=>cases ry; exact PySem.EqNone.eq_str_none (Yk I q (by simp))
  | bl j=>cases ry; exact PySem.EqMixed.eq_str_bool (Yk I q (by simp))
  | int j=>obtain ⟨t',rfl⟩:=ry; exact PySem.EqMixed.eq_str_int (Yk I q (by simp))
  | str j=>obtain ⟨t',rfl⟩:=ry; exact eq_str (Yk I q dec_str)
  | _=>exact absurd (show false=true from hs) Bool.false_ne_true
 | byt i =>
  obtain ⟨t,rfl⟩:=rx
  cases y with
  | byt j=>obtain ⟨t',rfl⟩:=ry; exact W.eq_bytes (Yk I q dec_byt)
  | _=>exact absurd (show false=true from hs) Bool.false_ne_true
 | _=>cases y <;> exact absurd (show false=true from hs) Bool.false_ne_true
theorem op_ne:OpR X (compareOp .NotEq) rNe:=by
 intro pins s σ H x y v u Q I rx ry h
 obtain ⟨hs,q⟩:=h
 cases x with
 | non =>
  cases rx
  cases y with
  | non=>cases ry; exact PySem.EqNone.ne_none_none (Yk I q (by simp))
  | bl j=>cases ry; exact PySem.EqNone.ne_none_bool (Yk I q (by simp))
  | int j=>obtain ⟨t',rfl⟩:=ry; exact PySem.EqNone.ne_none_int (Yk I q (by simp))
  | str j=>obtain ⟨t',rfl⟩:=ry; exact PySem.EqNone.ne_none_str (Yk I q (by simp))
  | _=>exact absurd (show false=true from hs) Bool.false_ne_true
 | bl i =>
  cases rx
  cases y with
  | non=>cases ry; exact PySem.EqNone.ne_bool_none (Yk I q (by simp))
  | bl j=>cases ry; exact ne_bool (Yk I q (congrArg not dec_bl))
  | str j=>obtain ⟨t',rfl⟩:=ry; exact PySem.EqMixed.ne_bool_str (Yk I q (by simp))
  | _=>exact absurd (show false=true from hs) Bool.false_ne_true
 | int i =>
  obtain ⟨t,rfl⟩:=rx
  cases y with
  | non=>cases ry; exact PySem.EqNone.ne_int_none (Yk I q (by simp))
  | int j=>obtain ⟨t',rfl⟩:=ry; exact ne_int (Yk I q (congrArg not Yd))
  | str j=>obtain ⟨t',rfl⟩:=ry; exact PySem.EqMixed.ne_int_str (Yk I q (by simp))
  | _=>exact absurd (show false=true from hs) Bool.false_ne_true
 | str i =>
  obtain ⟨t,rfl⟩:=rx
  cases y with
  | non=>cases ry; exact PySem.EqNone.ne_str_none (Yk I q (by simp))
  | bl j=>cases ry; exact PySem.EqMixed.ne_str_bool (Yk I q (by simp))
  | int j=>obtain ⟨t',rfl⟩:=ry; exact PySem.EqMixed.ne_str_int (Yk I q (by simp))
  | str j=>obtain ⟨t',rfl⟩:=ry; exact ne_str (Yk I q (congrArg not dec_str))
  | _=>exact absurd (show false=true from hs) Bool.false_ne_true
 | byt i =>
  obtain ⟨t,rfl⟩:=rx
  cases y with
  | byt j=>obtain ⟨t',rfl⟩:=ry; exact W.ne_bytes (Yk I q (congrArg not dec_byt))
  | _=>exact absurd (show false=true from hs) Bool.false_ne_true
 | _=>cases y <;> exact absurd (show false=true from hs) Bool.false_ne_true
theorem op_lt:OpR X (compareOp .Lt) (rI0 fun i j=>.bl (decide (i<j))):=opB0 fun _ _ _ _ _ _ _ q=>lt_int q
theorem op_le:OpR X (compareOp .LtE) (rI0 fun i j=>.bl (decide (i<=j))):=opB0 fun _ _ _ _ _ _ _ q=>le_int q
theorem op_gt:OpR X (compareOp .Gt) (rI0 fun i j=>.bl (decide (j<i))):=opB0 fun _ _ _ _ _ _ _ q=>gt_int q
theorem op_ge:OpR X (compareOp .GtE) (rI0 fun i j=>.bl (decide (j<=i))):=opB0 fun _ _ _ _ _ _ _ q=>ge_int q
theorem op_isN:OpR X (compareOp .Is) (fun x y H Q=>y=.non/\Q (.bl (decide (x=.non))) H):=by
 intro pins s σ H x y v u Q I rx ry h
 obtain ⟨rfl,q⟩:=h
 cases ry
 refine is_none_gen (Yk I q ?_)
 cases x <;> first
  | (cases rx; rfl)
  | (obtain ⟨t,rfl⟩:=rx; rfl)
theorem op_notN:OpR X (compareOp .IsNot) (fun x y H Q=>y=.non/\Q (.bl (!decide (x=.non))) H):=by
 intro pins s σ H x y v u Q I rx ry h
 obtain ⟨rfl,q⟩:=h
 cases ry
 refine isnot_none_gen (Yk I q ?_)
 cases x <;> first
  | (cases rx; rfl)
  | (obtain ⟨t,rfl⟩:=rx; rfl)
theorem OpR.or {f:Value->Value->Sem Value} {r r':R2} (h:OpR X f r) (h':OpR X f r'):OpR X f (fun x y H Q=>r x y H Q\/r' x y H Q):=by
 intro pins s σ H x y v u Q I rx ry q
 rcases q with q | q
 ·exact h pins s σ H x y v u Q I rx ry q
 ·exact h' pins s σ H x y v u Q I rx ry q
theorem Zd (b:Expr) {op:CmpOp} (h:op≠.In:=by decide) (h2:op≠.NotIn:=by decide):behindInMarks op b=false:=by
 have e1:(op == CmpOp.In)=false:=by cases op <;> first | rfl | exact absurd rfl h
 have e2:(op == CmpOp.NotIn)=false:=by cases op <;> first | rfl | exact absurd rfl h2
 cases b <;> simp [behindInMarks,e1,e2]
theorem Vh {op:CmpOp} {r:R2} (ho:OpR X (compareOp op) r) (ha:PE X a ta) (hb:PE X b tb) (hm:behindInMarks op b=false):PE X (.Compare a [op] [b] pos) (tOp r ta tb):=by
 intro pins s σ H Q I h
 exact wpAny_Compare1 (binT ha hb I h fun v u s2 x y H2 I2 rx ry q=>ho pins s2 σ H2 x y v u Q I2 rx ry q) hm
def tTest (t:TE):TT:=fun σ H Q=>t σ H fun x H'=>∃ k,x=.bl k/\Q k H'
theorem Zm {op:CmpOp} {r:R2} (ho:OpR X (compareOp op) r) (ha:PE X a ta) (hb:PE X b tb) (hm:behindInMarks op b=false):PT X (.Compare a [op] [b] pos) (tTest (tOp r ta tb)):=by
 intro pins s σ H Q I h
 refine wpAny_isTrue_Compare1 (Vv (ha pins s σ H _ I h) fun v s1 ⟨x,H1,I1,r1,q1⟩=>Vv (hb pins s1 σ H1 _ I1 q1) fun u s2 ⟨y,H2,I2,r2,q2⟩ =>
  Vv (ho pins s2 σ H2 x y v u _ I2 r1 r2 q2) fun c s3 ⟨z,H3,I3,r3,k,e,q3⟩=>?_) hm
 subst e
 cases r3
 exact wpAny_truthy_bool ⟨H3,I3,q3⟩
def tChain (r r':R2) (ta tb tc:TE):TE:=fun σ H Q=>ta σ H fun x H1=>tb σ H1 fun y H2=>r x y H2 fun z H3=>∃ k,z=.bl k /\
 (if k=true then tc σ H3 fun w' H4=>r' y w' H4 Q else Q (.bl false) H3)
theorem pe_chain {op op':CmpOp} {r r':R2} (ho:OpR X (compareOp op) r) (ho':OpR X (compareOp op') r') (ha:PE X a ta) (hb:PE X b tb) (hc:PE X c tc)
  (hm:lastMarks [op,op'] [b,c]=false:=by with_unfolding_all rfl):PE X (.Compare a [op,op'] [b,c] pos) (tChain r r' ta tb tc):=by
 intro pins s σ H Q I h
 refine Compare_chain (Vv (ha pins s σ H _ I h) fun v s1 ⟨x,H1,I1,r1,q1⟩=>chain_link (Vv (hb pins s1 σ H1 _ I1 q1) fun u s2 ⟨y,H2,I2,r2,q2⟩ =>
  Vv (ho pins s2 σ H2 x y v u _ I2 r1 r2 q2) fun d s3 ⟨z,H3,I3,r3,k,e,q3⟩=>?_)) hm
 subst e
 cases r3
 refine wpAny_truthy_bool ?_
 cases k with
 | false=>exact ite_ff ⟨.bl false,H3,I3,rfl,q3⟩
 | true=>exact ite_tt (chain_last (Vv (hc pins s3 σ H3 _ I3 q3) fun w' s4 ⟨z',H4,I4,r4,q4⟩=>ho' pins s4 σ H4 y z' u w' Q I4 r2 r4 q4))
theorem line63:(sizeLine:Nat)<2 ^ 63:=by rw [sizeLine_eq]; decide
theorem Vy:OpR X (binaryOp .Add) (fun x y H Q=>∃ i j,x=.str i/\y=.str j/\i.length+j.length<=sizeLine/\Q (.str (i++j)) H):=by
 intro pins s σ H x y v u Q I rx ry h
 obtain ⟨i,j,rfl,rfl,hz,q⟩:=h
 obtain ⟨t,rfl⟩:=rx
 obtain ⟨t',rfl⟩:=ry
 exact add_str (fun t' tk=>⟨.str (i++j),H,I.tok _,⟨_,rfl⟩,q⟩) hz
theorem vals1 {x:V} {us:List Value} (r:Z0 [x] us):∃ u,us=[u]/\Yq x u:=by
 cases r with
 | cons r1 r2=>cases r2; exact ⟨_,rfl,r1⟩
theorem vals2 {x y:V} {us:List Value} (r:Z0 [x,y] us):∃ u w',us=[u,w']/\Yq x u/\Yq y w':=by
 cases r with
 | cons r1 r2 =>
  cases r2 with
  | cons r3 r4=>cases r4; exact ⟨_,_,rfl,r1,r3⟩
theorem call_max2 (hc:X.calm=true):CallR X (.builtin "max") (fun xs H Q=>∃ i j,xs=[.int i,.int j]/\Q (.int (if j>i then j else i)) H):=by
 intro pins s σ H xs us Q I r h
 obtain ⟨i,j,rfl,q⟩:=h
 obtain ⟨u,w',rfl,⟨t,rfl⟩,⟨t',rfl⟩⟩:=vals2 r
 refine max_two_ints (I.ok.hd hc) fun h' tk k=>⟨_,H,I.kept k, ?_,q⟩
 by_cases hj:j>i
 ·rw [if_pos hj,if_pos hj]; exact ⟨_,rfl⟩
 ·rw [if_neg hj,if_neg hj]; exact ⟨_,rfl⟩
theorem call_int1:CallR X (.type "int") (fun xs H Q=>(∃ i,xs=[.int i]/\Q (.int i) H)\/∃ k,xs=[.bl k]/\Q (.int (if k then 1 else 0)) H):=by
 intro pins s σ H xs us Q I r h
 rcases h with ⟨i,rfl,q⟩ | ⟨k,rfl,q⟩
 ·obtain ⟨u,rfl,t,rfl⟩:=vals1 r
  exact call_int_int ⟨.int i,H,I,⟨_,rfl⟩,q⟩
 ·obtain ⟨u,rfl,r1⟩:=vals1 r
  cases r1
  exact call_int_bool ⟨.int (if k then 1 else 0),H,I.tok _,⟨_,rfl⟩,q⟩
theorem call_ord:CallR X (.builtin "ord") (fun xs H Q=>∃ x,xs=[.str x]/\x.length=1/\Q (.int (x.cps.getD 0 0:Nat)) H):=by
 intro pins s σ H xs us Q I r h
 obtain ⟨x,rfl,hz,q⟩:=h
 obtain ⟨u,rfl,t,rfl⟩:=vals1 r
 exact ord_of_one hz ⟨.int _,H,I.tok _,⟨_,rfl⟩,q⟩
end
structure ObjM (h:Heap) (x dx C:Addr) (mA:Str->Option Value):Prop where
 obj:h.get? x=some (W.instObj C dx)
 ns:h.Ns1 dx mA
 ne:dx≠x
theorem lookIn_ns {h:Heap} {dx:Addr} {mA:Str->Option Value} (n:h.Ns1 dx mA):∃ od,h.get? dx=some od/\∀ name,W.lookIn name od=some (mA name):=by
 obtain ⟨o,es,ep,ho,hd,hk,_,hm⟩:=n
 refine ⟨o,ho,fun name=>?_⟩
 have e:=hm name
 unfold nsFind findBy at e
 rw [<-Array.find?_toList] at e
 unfold W.lookIn
 rw [hd]
 dsimp only
 split
 ·rename_i y q
  rw [q] at e
  exact congrArg some e
 ·rename_i q
  rw [q] at e
  have a:es.toList.any (·.refKey)=false:=by
   rw [List.any_eq_false]
   intro y hy
   obtain ⟨z,t,hkey⟩:=hk y (Array.mem_toList_iff.mp hy)
   simp [DictEntry.refKey,hkey]
  have a':¬ es.toList.any (·.refKey)=true:=by rw [a]; exact Bool.false_ne_true
  rw [if_neg a']
  exact congrArg some e
theorem ObjM.look {h:Heap} {x dx C:Addr} {mA:Str->Option Value} (I:ObjM h x dx C mA):∃ od,W.InstAt h x (W.instObj C dx) C (some od)/\∀ name,W.lookIn name od=some (mA name) :=
 let ⟨od,ho,hl⟩:=lookIn_ns I.ns
 ⟨od,⟨I.obj,rfl,rfl,ho⟩,hl⟩
section
variable {prog:Program} {w:World} {A:Around} {E:Value->Shared->Prop} {s:Shared} {K:W.Frag} {x dx C f:Addr} {mA:Str->Option Value} {name:Str} {v:Value}
theorem get_map {expr:Bool} {Q:Value->Shared->Prop} (X:K.In s.heap) (I:ObjM s.heap x dx C mA) (hg:W.plainGet K C name=true) (hh:W.hasDictIn K C=true)
  (ha:W.findIn K (.ref C) name=some none) (hv:mA name=some v) (hv':W.handedIn v=true) (h:Q v { s with toks:=s.toks+1 }) :
  wpAny (model prog w) A (getAttr (.ref x) name expr) Q E s:=by
 obtain ⟨od,J,hl⟩:=I.look
 exact W.get_value X J (W.plainGet_of hg).1 (W.findObj_own hh ha rfl (by rw [hl,hv])) hv' h
theorem get_meth {pl:Sem Bool} {Q:Value × List Value->Shared->Prop} (X:K.In s.heap) (I:ObjM s.heap x dx C mA) (hg:W.plainGet K C name=true)
  (hf:W.findIn K (.ref C) name=some (some (.ref f))) (ht:W.isFn K (.ref f)=true) (hv:mA name=none) (h:Q (.ref f,[.ref x]) s) :
  wpAny (model prog w) A (getMethod (.ref x) name pl) Q E s:=by
 obtain ⟨od,J,hl⟩:=I.look
 exact W.method_fn X J (W.plainGet_of hg).1 (W.plainGet_of hg).2 hf (beq_iff_eq.mp ht) (by show (W.lookIn name od).map (·.isSome)=some false; rw [hl,hv]; rfl) h
theorem set_map {ns:List Str} {Q:Unit->Shared->Prop} (X:K.In s.heap) (I:ObjM s.heap x dx C mA)
  (hs:W.findIn K (.ref C) "__setattr__" = some (some (.builtin "object.__setattr__"))) (hp:W.plainOver K C=true) (ht:W.takerIn K C name=some none) (hh:W.hasDictIn K C=true)
  (hw:PySem.Within mA ns) (hsz:ns.length<=sizeLine)
  (h:∀ h',ObjM h' x dx C (fun y=>if y=name then some v else mA y)->Heap.SameBut dx s.heap h'->Q () { s with heap:=h',toks:=s.toks+2 }) :
  wpAny (model prog w) A (setAttr (.ref x) name v) Q E s:=by
 obtain ⟨od,J,hl⟩:=I.look
 refine W.set_plain X J hs (W.osa_open (s:={ s with toks:=s.toks+1 }) (r:=none) X J hp ht fun b=>?_)
 obtain ⟨cd,hc,hd'⟩:=W.any_some hh
 have hx:s.heap.get? x=some ⟨.ref C,some dx,.plain, #[]⟩:=I.obj
 refine wpAny_bind (wpAny_pure (wpAny_bind (wpAny_bind (wpAny_loadPart hx (wpAny_bind (W.Looks.here (s:={ s with toks:=s.toks+1 }) (W.looks_clsIn X hc) ?_))))))
 rw [hd']
 refine wpAny_pure (a:=some dx) (wpAny_bind (wpAny_pure (wpAny_bind ?_)))
 refine wpAny_nsSet1 (s:={ s with toks:=s.toks+1 }) I.ns fun h' hn2 hs2=>?_
 obtain ⟨oD,esD,epD,hoD,hdD,hcD⟩:=hn2.count (PySem.Within.cons name v hw)
 refine wpAny_bind (wpAny_lookBehind hoD (by rw [hdD]; exact pastItsLine_dict (Nat.le_trans hcD (by rw [List.length_cons]; omega))) ?_)
 exact wpAny_pure (h _ ⟨(hs2.2 _ (Ne.symm I.ne)).trans I.obj,hn2,I.ne⟩ hs2)
theorem make_map {R:Result->Shared->Prop} {vs:List Value} {kw:List (Str × Value)} (X:K.In s.heap) (hm:W.makesIn K C=true)
  (hi:W.findIn K (.ref C) "__init__" = some (some (.ref f))) (hf:W.typeIn K (.ref f)=some (.type "function"))
  (h:codeAny (model prog w) (A.under (.builtin "type.__call__" ⟨.ref C::vs,kw⟩)) (.call (.ref f) ⟨.ref (s.heap.objs.size+1)::vs,kw⟩) (W.InitBack (s.heap.objs.size+1) R)
   { s with heap:=(s.heap.push W.emptyDict).push (W.instObj C s.heap.objs.size) }) :
  codeAny (model prog w) A (.call (.ref C) ⟨vs,kw⟩) R s:=by
 obtain ⟨hh,g,d,t,os⟩:=s
 exact W.make_core (W.makes_of X hm) (W.looks_findIn X hi) (fun self=>W.bind_fn X self hf) (.inl rfl) h
end
def putF (f:Str) (v:V):List (Str × V)->List (Str × V)
 | []=>[(f,v)]
 | (g,x)::r=>if g=f then (g,v)::r else (g,x)::putF f v r
theorem lookup_putF (f g:Str) (v:V):∀ fs:List (Str × V),(putF f v fs).lookup g=if g=f then some v else fs.lookup g
 | []=>by
  show List.lookup g [(f,v)]=_
  by_cases h:g=f
  ·have hb:(g == f)=true:=beq_iff_eq.mpr h
   simp only [List.lookup,hb,if_pos h]
  ·have hb:(g == f)=false:=beq_eq_false_iff_ne.mpr h
   simp only [List.lookup,hb,if_neg h]
 | (k,x)::r=>by
  have ih:=lookup_putF f g v r
  rw [show putF f v ((k,x)::r)=(if k=f then (k,v)::r else (k,x)::putF f v r) from rfl]
  by_cases hk:k=f
  ·rw [if_pos hk]
   by_cases h:g=k
   ·have hb:(g == k)=true:=beq_iff_eq.mpr h
    simp only [List.lookup,hb,if_pos (h.trans hk)]
   ·have hb:(g == k)=false:=beq_eq_false_iff_ne.mpr h
    simp only [List.lookup,hb,if_neg (fun e:g=f=>h (e.trans hk.symm))]
  ·rw [if_neg hk]
   by_cases h:g=k
   ·have hb:(g == k)=true:=beq_iff_eq.mpr h
    simp only [List.lookup,hb,if_neg (fun e:g=f=>hk (h.symm.trans e))]
   ·have hb:(g == k)=false:=beq_eq_false_iff_ne.mpr h
    simp only [List.lookup,hb]
    exact ih
theorem keys_putF (f:Str) (v:V):∀ fs:List (Str × V),f∈(putF f v fs).map (·.1)/\∀ g,g∈fs.map (·.1)->g∈(putF f v fs).map (·.1)
 | []=>⟨by simp [putF],fun g h=>by simp at h⟩
 | (k,x)::r=>by
  obtain ⟨i1,i2⟩:=keys_putF f v r
  rw [show putF f v ((k,x)::r)=(if k=f then (k,v)::r else (k,x)::putF f v r) from rfl]
  by_cases hk:k=f
  ·rw [if_pos hk]
   subst hk
   exact ⟨by simp,fun g h=>by simpa using h⟩
  ·rw [if_neg hk]
   refine ⟨?_,fun g h=>?_⟩
   ·rw [List.map_cons]
    exact List.mem_cons_of_mem _ i1
   ·rw [List.map_cons] at h ⊢
    rcases List.mem_cons.mp h with e | e
    ·exact List.mem_cons.mpr (.inl e)
    ·exact List.mem_cons_of_mem _ (i2 g e)
theorem length_putF (f:Str) (v:V):∀ fs:List (Str × V),(putF f v fs).length<=fs.length+1
 | []=>by simp [putF]
 | (k,x)::r=>by
  have ih:=length_putF f v r
  rw [show putF f v ((k,x)::r)=(if k=f then (k,v)::r else (k,x)::putF f v r) from rfl]
  by_cases hk:k=f
  ·rw [if_pos hk,List.length_cons,List.length_cons]; omega
  ·rw [if_neg hk,List.length_cons,List.length_cons]; omega
theorem RelO.some_of {v:V} {o:Option Value} (r:RelO (some v) o):∃ u,o=some u/\Yq v u:=by
 cases o with
 | none=>exact (show False from r).elim
 | some u=>exact ⟨u,rfl,r⟩
theorem RelO.none_of {o:Option Value} (r:RelO none o):o=none:=by
 cases o with
 | none=>rfl
 | some u=>exact (show False from r).elim
theorem handed_of {v:V} {u:Value} (r:Yq v u):W.handedIn u=true:=by
 cases v with
 | non=>cases (show u=Value.none from r); rfl
 | bl b=>cases (show u=Value.bool b from r); rfl
 | int i=>obtain ⟨t,e⟩:=(show ∃ t,u=Value.int i t from r); cases e; rfl
 | str x=>obtain ⟨t,e⟩:=(show ∃ t,u=Value.str x t from r); cases e; rfl
 | byt b=>obtain ⟨t,e⟩:=(show ∃ t,u=Value.bytes b t from r); cases e; rfl
 | flt b=>obtain ⟨t,e⟩:=(show ∃ t,u=Value.float b t from r); cases e; rfl
 | ref a=>cases (show u=Value.ref a from r); rfl
 | ty n=>cases (show u=Value.type n from r); rfl
section
variable {P:Program} {w:World} {H H':Hp} {h h':Heap} {a C dx:Addr} {fs fs':List (Str × V)}
theorem ins_get (hok:HOk P w H h) (e:H a=some (.ins C dx fs)):∃ mA,ObjM h a dx C mA/\(∀ f,RelO (fs.lookup f) (mA f))/\PySem.Within mA (fs.map (·.1))/\fs.length<=1000/\H dx=some (.own a):=by
 obtain ⟨d,z,ne,ob,mA,n,r,q⟩:=(show Vk P w H h a (.ins C dx fs) from hok a _ e)
 exact ⟨mA,⟨ob,n,ne⟩,r,q,z,d⟩
end
structure Cls (K:W.Frag) (C:Addr):Prop where
 pg:W.plainGet K C Str.empty=true
 hd:W.hasDictIn K C=true
 po:W.plainOver K C=true
 sa:W.findIn K (.ref C) "__setattr__" = some (some (.builtin "object.__setattr__"))
theorem Cls.get {K:W.Frag} {C:Addr} (c:Cls K C) (f:Str):W.plainGet K C f=true:=c.pg
def V6 (K:W.Frag) (C:Addr) (f:Str):Prop:=W.findIn K (.ref C) f=some none
theorem V6.taker {K:W.Frag} {C:Addr} {f:Str} (n:V6 K C f):W.takerIn K C f=some none:=by
 unfold W.takerIn
 rw [show W.findIn K (.ref C) f=some none from n]
 rfl
structure Con (K:W.Frag) (C:Addr) (f:Str) (v:V) (u:Value):Prop where
 at_:W.findIn K (.ref C) f=some (some u)
 rel:Yq v u
 get:W.specialIn K u "__get__" = some none
 cp:W.copiedNames.contains f=false
structure Meth (K:W.Frag) (C:Addr) (m:Str) (f:Addr):Prop where
 at_:W.findIn K (.ref C) m=some (some (.ref f))
 fn:W.isFn K (.ref f)=true
 kp:W.keepIn K (.ref f)=true
section
variable {X:Cx} {pins:List (Addr × Obj)} {σ:St} {H:Hp} {s:Shared} {a C dx:Addr} {fs:List (Str × V)} {f:Str} {v:V} {A:Around} {E:Value->Shared->Prop}
theorem getattr_ok {b:Bool} {Q:Value->Shared->Prop} (I:Zs X pins σ H s) (e:H a=some (.ins C dx fs)) (c:Cls X.K C) (n:V6 X.K C f) (l:fs.lookup f=some v)
  (h:∀ u s',Zs X pins σ H s'->Yq v u->Q u s'):wpAny (model X.prog X.w) A (getAttr (.ref a) f b) Q E s:=by
 obtain ⟨mA,O,r,_,_,_⟩:=ins_get I.hok e
 obtain ⟨u,hu,ru⟩:=RelO.some_of (v:=v) (o:=mA f) (by rw [<-l]; exact r f)
 exact get_map I.kIn O (c.get f) c.hd n hu (handed_of ru) (h u _ (I.tok _) ru)
theorem getmeth_ok {m:Str} {g:Addr} {pl:Sem Bool} {Q:Value × List Value->Shared->Prop} (I:Zs X pins σ H s) (e:H a=some (.ins C dx fs)) (c:Cls X.K C) (k:Meth X.K C m g) (l:fs.lookup m=none)
  (h:Q (.ref g,[.ref a]) s):wpAny (model X.prog X.w) A (getMethod (.ref a) m pl) Q E s:=by
 obtain ⟨mA,O,r,_,_,_⟩:=ins_get I.hok e
 have hn:mA m=none:=RelO.none_of (by rw [<-l]; exact r m)
 exact get_meth I.kIn O (c.get m) k.at_ k.fn hn h
theorem setattr_ok {y:V} {u:Value} {Q:Unit->Shared->Prop} (I:Zs X pins σ H s) (e:H a=some (.ins C dx fs)) (c:Cls X.K C) (n:V6 X.K C f) (hl:fs.length<1000) (ry:Yq y u)
  (h:∀ s',Zs X pins σ (Z6 H a (.ins C dx (putF f y fs))) s'->Q () s'):wpAny (model X.prog X.w) A (setAttr (.ref a) f u) Q E s:=by
 obtain ⟨mA,O,r,wi,_,ho⟩:=ins_get I.hok e
 have hz:(fs.map (·.1)).length<=sizeLine:=by rw [List.length_map,sizeLine_eq]; omega
 refine set_map I.kIn O c.sa c.po n.taker c.hd wi hz fun h' O' sb=>h _ ?_
 have hd:∃ o,h'.get? dx=some o:=let ⟨o,_,_,e',_⟩:=O'.ns; ⟨o,e'⟩
 refine I.write (x:=a) (e:=dx) (by rw [e]; exact True.intro) (.inr ho) (fun b q hb z=>(sb.2 b hb).trans z) hd ?_
 refine ⟨by rw [Zh O.ne]; exact ho, ?_,O.ne,O'.obj,_,O'.ns,fun g=>?_,fun g hg=>?_⟩
 ·have:=length_putF f y fs; omega
 ·show RelO ((putF f y fs).lookup g) (if g=f then some u else mA g)
  rw [lookup_putF]
  by_cases q:g=f
  ·rw [if_pos q,if_pos q]; exact ry
  ·rw [if_neg q,if_neg q]; exact r g
 ·by_cases q:g=f
  ·rw [q]; exact (keys_putF f y fs).1
  ·refine (keys_putF f y fs).2 g (wi g fun z=>hg ?_)
   show (if g=f then some u else mA g)=none
   rw [if_neg q]; exact z
theorem Zs.made (I:Zs X pins σ H s):Zs X pins σ (Z6 (Z6 H s.heap.objs.size (.own (s.heap.objs.size+1))) (s.heap.objs.size+1) (.ins C s.heap.objs.size []))
  { s with heap:=(s.heap.push W.emptyDict).push (W.instObj C s.heap.objs.size) }:=by
 have e1:(s.heap.push W.emptyDict).get? s.heap.objs.size=some W.emptyDict:=Heap.get?_push_size s.heap rfl
 have e2:((s.heap.push W.emptyDict).push (W.instObj C s.heap.objs.size)).get? (s.heap.objs.size+1)=some (W.instObj C s.heap.objs.size):=by
  have:=Heap.get?_push_size (s.heap.push W.emptyDict) (o:=W.instObj C s.heap.objs.size) rfl
  rwa [Heap.size_push] at this
 have e3:(s.heap.push W.emptyDict).Ns s.heap.objs.size (fun _=>none):=⟨W.emptyDict, #[],_,e1,rfl,(fun e he=>absurd he (by simp)),fun _=>rfl⟩
 have I1:=I.laid (a:=s.heap.objs.size) (o:=.own (s.heap.objs.size+1)) (h':=s.heap.push W.emptyDict) (t':=s.toks) (fun b u q=>Heap.get?_push_of_some _ q) (Nat.le_refl _) ⟨_,e1⟩
 refine I1.laid (a:=s.heap.objs.size+1) (o:=.ins C s.heap.objs.size []) (t':=s.toks) (fun b u q=>Heap.get?_push_of_some _ q) (Nat.le_of_eq (Heap.size_push _ _)) ?_
 have ne:s.heap.objs.size≠s.heap.objs.size+1:=Nat.ne_of_lt (Nat.lt_succ_self _)
 refine ⟨by rw [Zh ne,Zq],Nat.zero_le _,ne,e2,fun _=>none,(Heap.Ns1.of_empty e3).at fun o q=>Heap.get?_push_of_some _ q,fun _=>True.intro,fun y hy=>absurd rfl hy⟩
theorem attr_of {prog:Program} {w:World} {env:Env} {e:Expr} {f:Str} {pos:Pos} {s:Shared} {Q:Value->Shared->Prop} (hb:attributeBase e f env (eval e env)=eval e env)
  (h:wpAny (model prog w) A (eval e env) (fun o s₁=>wpAny (model prog w) A (getAttr o f true) Q E s₁) E s):wpAny (model prog w) A (eval (.Attribute e f pos) env) Q E s :=
 Attribute_any_ h (by rw [arm_eval_Attribute,hb])
end
def tFld (K:W.Frag) (ta:TE) (f:Str):TE:=fun σ H Q=>ta σ H fun x H1=>∃ a C dx fs v,x=.ref a/\H1 a=some (.ins C dx fs)/\Cls K C/\V6 K C f/\fs.lookup f=some v/\Q v H1
def sFld (K:W.Frag) (ta tv:TE) (f:Str):TS:=fun D σ H=>tv σ H fun y H1=>ta σ H1 fun x H2=>∃ a C dx fs,x=.ref a/\H2 a=some (.ins C dx fs)/\Cls K C/\V6 K C f/\fs.length<1000 /\
 D.nx σ (Z6 H2 a (.ins C dx (putF f y fs)))
section
variable {X:Cx} {o e value:Expr} {f:Str} {pos pos' tpos:Pos} {ta tv:TE}
theorem Um (he:PE X e ta) (hb:attributeBase e f X.env (eval e X.env)=eval e X.env):PE X (.Attribute e f pos) (tFld X.K ta f):=by
 intro pins s σ H Q I h
 refine attr_of hb (Vv (he pins s σ H _ I h) fun u s1 ⟨x,H1,I1,rx,a,C,dx,fs,v,ex,ea,c,n,l,q⟩=>?_)
 subst ex
 obtain rfl:u=Value.ref a:=rx
 exact getattr_ok I1 ea c n l fun u' s2 I2 ru=>⟨v,H1,I2,ru,q⟩
theorem ps_fld (ha:PE X o ta) (hv:PE X value tv) (hs:swapsWith value (some (.Attribute o f pos')) pos.line X.env=pure false):PS X (.Assign [.Attribute o f pos'] value pos) (sFld X.K ta tv f):=by
 intro pins s σ H D I h
 refine plainObj_wpAny_Assign_Attribute (Vv (hv pins s σ H _ I h) fun u s1 ⟨y,H1,I1,ry,q⟩=>Vv (ha pins s1 σ H1 _ I1 q) fun ov s2 ⟨x,H2,I2,rx,a,C,dx,fs,ex,ea,c,n,l,q2⟩=>?_) hs
 subst ex
 obtain rfl:ov=Value.ref a:=rx
 exact setattr_ok I2 ea c n l ry fun s3 I3=>⟨σ,_,I3,q2⟩
end
section
variable {X:Cx} {pins:List (Addr × Obj)} {σ:St} {H:Hp} {s:Shared} {A:Around} {E:Value->Shared->Prop} {Q:Value->Shared->Prop} {c:Value} {b:Bool}
inductive TyOf (K:W.Frag) (H:Hp):V->Value->Prop where
 | non:TyOf K H .non (.type "NoneType")
 | bl (x:Bool):TyOf K H (.bl x) (.type "bool")
 | int (i:Int):TyOf K H (.int i) (.type "int")
 | str (x:Str):TyOf K H (.str x) (.type "str")
 | flt (x:UInt64):TyOf K H (.flt x) (.type "float")
 | lst {a:Addr} {xs:List V} (e:H a=some (.lst xs)):TyOf K H (.ref a) (.type "list")
 | frz {a:Addr} {o:Obj} {xs:List V} (e:H a=some (.frz o (.lst xs))):TyOf K H (.ref a) (.type "list")
 | tup {a:Addr} {xs:List V} (e:H a=some (.tup xs)):TyOf K H (.ref a) (.type "tuple")
 | dK {a:Addr} {kvs:List (Key × V)} (e:H a=some (.dK kvs)):TyOf K H (.ref a) (.type "dict")
 | dT {a:Addr} {kvs:List (List Key × V)} (e:H a=some (.dT kvs)):TyOf K H (.ref a) (.type "dict")
 | ins {a C dx:Addr} {fs:List (Str × V)} (e:H a=some (.ins C dx fs)) (cl:Cls K C) (ha:W.findIn K (.ref C) "__class__" = some (some (.builtin "object.__class__")))
   (hn:W.specialIn K (.builtin "object.__class__") "__get__" = some (some (.builtin "getset_descriptor.__get__"))) (htk:W.takesIn K (.builtin "object.__class__")=some true)
   (hm:W.mroIn K C (.type "object")=some true):TyOf K H (.ref a) (.ref C)
theorem isinst_ok {x:V} {u t:Value} (I:Zs X pins σ H s) (rx:Yq x u) (ty:TyOf X.K H x t) (e:W.kitOne X.K t c=some b) (h:∀ tk,Q (.bool b) { s with toks:=tk }) :
  wpAny (model X.prog X.w) A (call (.builtin "isinstance") [u,c]) Q E s:=by
 cases ty with
 | non=>cases (show u=Value.none from rx); exact W.kia_one W.kitx_none I.kIn True.intro e (fun z=>nomatch z) h
 | bl y=>cases (show u=Value.bool y from rx); exact W.kia_one W.kitx_bool I.kIn True.intro e (fun z=>nomatch z) h
 | int i=>obtain ⟨t,q⟩:=(show ∃ t,u=Value.int i t from rx); cases q; exact W.kia_one W.kitx_int I.kIn True.intro e (fun z=>nomatch z) h
 | str y=>obtain ⟨t,q⟩:=(show ∃ t,u=Value.str y t from rx); cases q; exact W.kia_one W.kitx_str I.kIn True.intro e (fun z=>nomatch z) h
 | flt y=>obtain ⟨t,q⟩:=(show ∃ t,u=Value.float y t from rx); cases q; exact W.kia_one W.kitx_float I.kIn True.intro e (fun z=>nomatch z) h
 | @lst a xs ea =>
  cases (show u=Value.ref a from rx)
  obtain ⟨_,_,n,_,h1⟩:=(show Vk X.prog X.w H s.heap a (.lst xs) from I.hok a _ ea)
  exact W.kia_one W.kitx_list I.kIn ⟨_,h1,rfl⟩ e (fun z=>nomatch z) h
 | @frz a ob xs ea =>
  cases (show u=Value.ref a from rx)
  obtain ⟨_,_,_,n,_,h1⟩:=(show Vk X.prog X.w H s.heap a (.frz ob (.lst xs)) from I.hok a _ ea)
  exact W.kia_one W.kitx_list I.kIn ⟨_,h1,rfl⟩ e (fun z=>nomatch z) h
 | @tup a xs ea =>
  cases (show u=Value.ref a from rx)
  obtain ⟨_,_,_,p⟩:=(show Vk X.prog X.w H s.heap a (.tup xs) from I.hok a _ ea)
  obtain ⟨o,h1,h2,_⟩:=p
  exact W.kia_one W.kitx_tuple I.kIn ⟨o,h1,h2⟩ e (fun z=>nomatch z) h
 | @dK a kvs ea =>
  cases (show u=Value.ref a from rx)
  obtain ⟨_,_,vs,_,p⟩:=(show Vk X.prog X.w H s.heap a (.dK kvs) from I.hok a _ ea)
  obtain ⟨o,es,ep,h1,h2,_⟩:=p
  exact W.kia_one W.kitx_dict I.kIn ⟨o,h1,h2.1⟩ e (fun z=>nomatch z) h
 | @dT a kvs ea =>
  cases (show u=Value.ref a from rx)
  obtain ⟨_,_,xs,_,o,es,ep,h1,h2,_⟩:=(show Vk X.prog X.w H s.heap a (.dT kvs) from I.hok a _ ea)
  exact W.kia_one W.kitx_dict I.kIn ⟨o,h1,h2.1⟩ e (fun z=>nomatch z) h
 | @ins a C dx fs ea cl ha hn htk hm =>
  cases (show u=Value.ref a from rx)
  obtain ⟨mA,O,_⟩:=ins_get I.hok ea
  obtain ⟨od,J,_⟩:=O.look
  exact W.kia_one (W.kitx_own (cl.get _) cl.hd ha hn htk hm) I.kIn J e (fun z=>nomatch z) h
end
structure Vm (k:Nat) (A:Around):Prop where
 hd:A.handled=none
 dp:A.depth+3 * k+5<recursionLimit
 un:A.units+16 * k+200<cLine
theorem Vm.mono {j k:Nat} {A:Around} (r:Vm k A) (h:j<=k):Vm j A:=⟨r.hd,by have:=r.dp; omega,by have:=r.un; omega⟩
theorem Vm.deeper {k:Nat} {A:Around} (r:Vm (k+1) A) (env:Env):Vm k (A.deeper env) :=
 ⟨r.hd,by have:=r.dp; show A.depth+1+3 * k+5<_; omega,by have:=r.un; show A.units+3+16 * k+200<_; omega⟩
theorem Vm.in1 {k:Nat} {A:Around} (r:Vm (k+1) A):Vm k A.in1 :=
 ⟨r.hd,by have:=r.dp; show A.depth+3 * k+5<_; omega,by have:=r.un; show A.units+1+16 * k+200<_; omega⟩
theorem make_depth {A:Around} {C:Addr} {us:List Value} {kw:List (Str × Value)}:(A.under (.builtin "type.__call__" ⟨.ref C::us,kw⟩)).depth=A.depth+1:=by
 first | rfl | simp [Around.under,Code.weight,Code.isCreation,Code.isGuard,Code.isCaller,Code.frames,Code.isFrame,guardIds]
theorem make_units {A:Around} {C:Addr} {us:List Value} {kw:List (Str × Value)}:(A.under (.builtin "type.__call__" ⟨.ref C::us,kw⟩)).units=A.units+1:=by
 first | rfl | simp [Around.under,Code.cUnits,Code.frames,Code.isFrame]
theorem Vm.make {k:Nat} {A:Around} (r:Vm (k+1) A) (C:Addr) (us:List Value) (kw:List (Str × Value)):Vm k (A.under (.builtin "type.__call__" ⟨.ref C::us,kw⟩)) :=
 ⟨r.hd,by have:=r.dp; rw [make_depth]; omega,by have:=r.un; rw [make_units]; omega⟩
theorem Vm.depth {k:Nat} {A:Around} (r:Vm k A):A.depth<recursionLimit:=by have:=r.dp; omega
theorem Vm.units {k:Nat} {A:Around} (r:Vm k A):A.units+64<cLine:=by have:=r.un; omega
def tNil:TA:=fun _ H Q=>Q [] H
def tCons (ta:TE) (tr:TA):TA:=fun σ H Q=>ta σ H fun x H1=>tr σ H1 fun xs H2=>Q (x::xs) H2
section
variable {X:Cx} {e:Expr} {es:List Expr} {te:TE} {t:TA} {pos:Pos}
theorem Zx:PA X [] tNil:=fun _ _ _ _ H Q I h=>Calls.spliced_nil ⟨[],H,I,.nil,h⟩
theorem Zw (ha:PE X e te) (hr:PA X es t) (hs:starEach (e::es) X.env=(false,eval e X.env)::starEach es X.env:=by rfl):PA X (e::es) (tCons te t):=by
 intro pos pins s σ H Q I h
 rw [hs]
 show wpAny _ _ (spliced ((false,eval e X.env)::backTo pos (starEach es X.env))) _ _ s
 refine Calls.spliced_cons (Vv (ha pins s σ H _ I h) fun u s1 ⟨x,H1,I1,r1,q1⟩=>?_)
 exact Vv (hr pos pins s1 σ H1 _ I1 q1) fun us s2 ⟨xs,H2,I2,r2,q2⟩=>⟨x::xs,H2,I2,.cons r1 r2,q2⟩
theorem Zf (ha:PE X e te) (hr:PA X es t) (hs:starEach (e::es) X.env=(false,eval e X.env)::starEach es X.env):PA X (e::es) (tCons te t):=Zw ha hr hs
def tTup (t:TA):TE:=fun σ H Q=>t σ H fun xs H1=>xs.length<=sizeLine/\∀ p,H1 p=none->Q (.ref p) (Z6 H1 p (.tup xs))
def tLst (t:TA):TE:=fun σ H Q=>t σ H fun xs H1=>xs.length<=sizeLine/\∀ p,H1 p=none->Q (.ref p) (Z6 H1 p (.lst xs))
theorem Zn {x1} (h:PA X es t):PE X (.Tuple es x1 pos) (tTup t):=by
 intro pins s σ H Q I hq
 refine wpAny_Tuple_spliced (Vv (h pos pins s σ H _ I hq) fun us s1 ⟨xs,H1,I1,r,z,q⟩=>⟨by rw [<-r.length]; exact z, ?_⟩)
 have hf:H1 s1.heap.objs.size=none:=I1.hok.fresh (Nat.le_refl _)
 refine ⟨.ref s1.heap.objs.size,Z6 H1 s1.heap.objs.size (.tup xs),I1.laid (t':=s1.toks) (fun b u e=>Heap.get?_push_of_some _ e) (Nat.le_refl _) ?_,rfl,q _ hf⟩
 exact ⟨z,us,r,⟨_,Heap.get?_push_size _ rfl,rfl,_,rfl⟩⟩
theorem Yf (h:PA X es t):PE X (.List es pos) (tLst t):=by
 intro pins s σ H Q I hq
 refine wpAny_List_spliced (Vv (h pos pins s σ H _ I hq) fun us s1 ⟨xs,H1,I1,r,z,q⟩=>⟨by rw [<-r.length]; exact z, ?_⟩)
 have hf:H1 s1.heap.objs.size=none:=I1.hok.fresh (Nat.le_refl _)
 refine ⟨.ref s1.heap.objs.size,Z6 H1 s1.heap.objs.size (.lst xs),I1.laid (t':=s1.toks) (fun b u e=>Heap.get?_push_of_some _ e) (Nat.le_refl _) ?_,rfl,q _ hf⟩
 exact ⟨z,us,0,r,Heap.get?_push_size _ rfl⟩
end
abbrev Sp:=List V->Hp->VK->XK->Prop
abbrev CXT:=List Env->Hp->Shared->XK->Value->Shared->Prop
structure Env0 (P:Program) (w:World) (K:W.Frag) (mg:Str->Option Value) (base:Heap) (A:Around) (outer:List Env) (s:Shared) (H:Hp):Prop where
 frames:A.frames=some outer
 mod:Mod K mg base
 bs:∀ b o,base.get? b=some o->s.heap.get? b=some o/\H b=none
 bsz:base.objs.size<=s.heap.objs.size
 funs:s.heap.FunFrames base outer
 frf:∀ b∈frs outer,H b=none
 hok:HOk P w H s.heap
 bare:AllBare s.gens
def CE (outer:List Env) (P:Program) (w:World) (H:Hp) (s:Shared) (Q:VK) (u:Value) (s':Shared):Prop :=
 ∃ v H',s'.os=s.os/\AllBare s'.gens/\Un (frs outer) [] H H' s.heap s'.heap/\HOk P w H' s'.heap/\Yq v u/\Q v H'
def CR (CX:CXT) (outer:List Env) (P:Program) (w:World) (H:Hp) (s:Shared) (Q:VK) (E:XK) (r:Result) (s':Shared):Prop :=
 match r with
 | .ok (.ret u)=>CE outer P w H s Q u s'
 | .ok _=>False
 | .error e=>CX outer H s E e s'
structure Yj (P:Program) (w:World) (K:W.Frag) (mg:Str->Option Value) (base:Heap) (CX:CXT) (k:Nat) (f:Addr) (fd:FuncData) (ps:List Str) (sp:Sp):Prop where
 len:∀ vs H Q E,sp vs H Q E->vs.length=ps.length
 run:∀ (A:Around) (outer:List Env) (s:Shared) (H:Hp) (args:Args) (us:List Value) (vs:List V) (Q:VK) (E:XK),Vm k A->Env0 P w K mg base A outer s H->BindsTo s fd args (ps.zip us)->Z0 vs us->sp vs H Q E ->
  codeAny (model P w) A (.call (.ref f) args) (CR CX outer P w H s Q E) s
theorem Yj.mono {P:Program} {w:World} {K:W.Frag} {mg:Str->Option Value} {base:Heap} {CX:CXT} {j k:Nat} {f:Addr} {fd:FuncData} {ps:List Str} {sp:Sp} (F:Yj P w K mg base CX j f fd ps sp) (h:j<=k) :
  Yj P w K mg base CX k f fd ps sp:=⟨F.len,fun A outer s H args us vs Q E hr=>F.run A outer s H args us vs Q E (hr.mono h)⟩
theorem Env0.make {P:Program} {w:World} {K:W.Frag} {mg:Str->Option Value} {base:Heap} {A:Around} {outer:List Env} {s:Shared} {H:Hp} (e:Env0 P w K mg base A outer s H) (C:Addr) (us:List Value) (kw:List (Str × Value)) :
  Env0 P w K mg base (A.under (.builtin "type.__call__" ⟨.ref C::us,kw⟩)) outer s H:=⟨by first | exact e.frames | (simpa [Around.under,Code.envs,Code.isFrame,pushEnvs] using e.frames),e.mod,e.bs,e.bsz,e.funs,e.frf,e.hok,e.bare⟩
theorem Env0.in1 {P:Program} {w:World} {K:W.Frag} {mg:Str->Option Value} {base:Heap} {A:Around} {outer:List Env} {s:Shared} {H:Hp} (e:Env0 P w K mg base A outer s H) :
  Env0 P w K mg base A.in1 outer s H:=⟨e.frames,e.mod,e.bs,e.bsz,e.funs,e.frf,e.hok,e.bare⟩
section
variable {X:Cx} {pins:List (Addr × Obj)} {σ:St} {H:Hp} {s s':Shared}
theorem Zs.env0 (I:Zs X pins σ H s):Env0 X.prog X.w X.K X.mg X.base X.A X.stack s H :=
 ⟨I.ok.frames,I.ok.mod,I.bs,Nat.le_trans I.ok.bsz I.sz,I.stack,I.stkFree,I.hok,I.bare⟩
theorem Zs.after {Q:VK} {u:Value} (I:Zs X pins σ H s) (h:CE X.stack X.prog X.w H s Q u s'):EP X pins σ Q u s':=by
 obtain ⟨v,H',os,bare,un,hok,r,q⟩:=h
 obtain ⟨hh,g,d,t,os'⟩:=s'
 obtain rfl:os'=s.os:=os
 exact ⟨v,H',I.call (h':=hh) (g':=g) (d':=d) (t':=t) (ch:=[]) un hok bare (fun b z=>absurd z (by simp)),r,q⟩
end
def tCall (sp:Sp) (dvs:List V) (E:XK) (t:TA):TE:=fun σ H Q=>t σ H fun vs H1=>sp (vs++dvs) H1 Q E
def tMeth (C:Addr) (m:Str) (sp:Sp) (dvs:List V) (E:XK) (ta:TE) (t:TA):TE:=fun σ H Q=>ta σ H fun x H1=>∃ a dx fs,x=.ref a/\H1 a=some (.ins C dx fs)/\fs.lookup m=none /\
 t σ H1 fun vs H2=>sp (x::(vs++dvs)) H2 Q E
def tMake (C:Addr) (sp:Sp) (dvs:List V) (E:XK) (t:TA):TE:=fun σ H Q=>t σ H fun vs H1=>∀ x dx,H1 x=none->H1 dx=none->dx≠x ->
 sp (.ref x::(vs++dvs)) (Z6 (Z6 H1 dx (.own x)) x (.ins C dx [])) (fun v H2=>v=.non/\Q (.ref x) H2) E
def Vc (K:W.Frag) (fd:FuncData) (ps:List Str) (ds:List Value):Prop :=
 ∀ (s:Shared) (us:List Value),K.In s.heap->(us++ds).length=ps.length->BindsTo s fd ⟨us,[]⟩ (ps.zip (us++ds))
theorem Vc.all {K:W.Frag} {fd:FuncData} {ps:List Str} (h:∀ us:List Value,us.length=ps.length->bindArgs fd ⟨us,[]⟩=pure (ps.zip us)):Vc K fd ps []:=fun s us _ hl=>by
 rw [List.append_nil] at hl ⊢
 exact .of_eq (h us hl)
def Passes (CX:CXT) (X:Cx) (E:XK):Prop:=∀ (pins:List (Addr × Obj)) (σ:St) (H:Hp) (s:Shared) (e:Value) (s':Shared),Zs X pins σ H s->CX X.stack H s E e s'->X.xe e s'
section
variable {X:Cx} {CX:CXT} {k:Nat} {f C:Addr} {fd:FuncData} {ps:List Str} {sp:Sp} {dvs:List V} {ds:List Value} {E:XK} {x m:Str} {p pos apos:Pos} {e o:Expr} {es:List Expr} {ta:TE} {t:TA}
theorem run_fn {pins:List (Addr × Obj)} {σ:St} {H:Hp} {s:Shared} {Q:VK} {us:List Value} {vs:List V} (F:Yj X.prog X.w X.K X.mg X.base CX k f fd ps sp) (hr:Vm k X.A) (hb:Vc X.K fd ps ds) (hd:Z0 dvs ds) (hx:Passes CX X E)
  (I:Zs X pins σ H s) (r:Z0 vs us) (h:sp (vs++dvs) H Q E):wpAny (model X.prog X.w) X.A (call (.ref f) us) (EP X pins σ Q) X.xe s:=by
 have r2:Z0 (vs++dvs) (us++ds):=r.append hd
 have hl:(us++ds).length=ps.length:=by rw [<-r2.length]; exact F.len _ _ _ _ h
 refine wpAny_call (codeAny_mono (F.run X.A X.stack s H ⟨us,[]⟩ (us++ds) (vs++dvs) Q E hr I.env0 (hb s us I.kIn hl) r2 h) fun r s' hq=>?_)
 cases r with
 | error e=>exact hx pins σ H s e s' I hq
 | ok fl =>
  cases fl with
  | ret u=>exact I.after hq
  | next=>exact False.elim hq
  | brk=>exact False.elim hq
  | cont=>exact False.elim hq
theorem pe_call (F:Yj X.prog X.w X.K X.mg X.base CX k f fd ps sp) (hr:Vm k X.A) (hg:Gl X x) (hm:X.mg x=some (.ref f)) (hk:W.keepIn X.K (.ref f)=true) (hb:Vc X.K fd ps ds) (hd:Z0 dvs ds) (hx:Passes CX X E)
  (ha:PA X (e::es) t) (hdb:(x == ("__debug__" : Str))=false:=by decide) (he:starEach (e::es) X.env=(false,eval e X.env)::starEach es X.env:=by rfl) (hpl:(backTo pos (starEach es X.env)).any (·.1)=false:=by rfl) :
  PE X (.Call (.Name x p) (e::es) [] pos) (tCall sp dvs E t):=by
 intro pins s σ H Q I h
 refine wpAny_Call_Name_kw (ld_glob I hg hm ?_ hdb)
 refine W.callWith_K (h₀:=X.base) I.ok.mod.kin hk (Vv (ha pos pins s σ H _ I h) fun us s1 ⟨vs,H1,I1,r,q⟩=>⟨I1.kIn, ?_⟩) he hpl
 exact run_fn F hr hb hd hx I1 r q
theorem pe_meth {pl:Sem Bool} (he:PE X o ta) (c:Cls X.K C) (hm:Meth X.K C m f) (F:Yj X.prog X.w X.K X.mg X.base CX k f fd ps sp) (hr:Vm k X.A) (hb:Vc X.K fd ps ds) (hd:Z0 dvs ds) (hx:Passes CX X E) (ha:PA X (e::es) t)
  (hst:starEach (e::es) X.env=(false,eval e X.env)::starEach es X.env:=by rfl) (hpl:(backTo pos (starEach es X.env)).any (·.1)=false:=by rfl)
  (ht:eval (.Call (.Attribute o m apos) (e::es) [] pos) X.env=(do
   let ov <-eval o X.env
   standAt apos.atName
   let (f,first) <-holding [ov] (getMethod ov m pl)
   callWith pos f first (backTo pos (starEach (e::es) X.env)) (backToKw pos (keywordEach [] X.env))):=by rfl) :
  PE X (.Call (.Attribute o m apos) (e::es) [] pos) (tMeth C m sp dvs E ta t):=by
 intro pins s σ H Q I h
 refine W.methodCall_KW (pl:=pl) (Vv (he pins s σ H _ I h) fun u s1 ⟨x,H1,I1,rx,a,dx,fs,ex,ea,l,q⟩=>?_) ht
 subst ex
 obtain rfl:u=Value.ref a:=rx
 refine getmeth_ok I1 ea c hm l ?_
 refine W.callWith_K (first:=[.ref a]) (h₀:=X.base) I.ok.mod.kin hm.kp (Vv (ha pos pins s1 σ H1 _ I1 q) fun us s2 ⟨vs,H2,I2,r,q2⟩=>⟨I2.kIn, ?_⟩) hst hpl
 exact run_fn (us:=.ref a::us) (vs:=.ref a::vs) F hr hb hd hx I2 (.cons rfl r) q2
structure Mk (K:W.Frag) (C f:Addr):Prop where
 makes:W.makesIn K C=true
 init:W.findIn K (.ref C) "__init__" = some (some (.ref f))
 fn:W.isFn K (.ref f)=true
 kp:W.keepIn K (.ref C)=true
theorem run_make {pins:List (Addr × Obj)} {σ:St} {H:Hp} {s:Shared} {Q:VK} {us:List Value} {vs:List V} (M:Mk X.K C f) (F:Yj X.prog X.w X.K X.mg X.base CX k f fd ps sp) (hr:Vm (k+1) X.A) (hb:Vc X.K fd ps ds) (hd:Z0 dvs ds)
  (hx:Passes CX X E) (I:Zs X pins σ H s) (r:Z0 vs us)
  (h:∀ x dx,H x=none->H dx=none->dx≠x->sp (.ref x::(vs++dvs)) (Z6 (Z6 H dx (.own x)) x (.ins C dx [])) (fun v H2=>v=.non/\Q (.ref x) H2) E) :
  wpAny (model X.prog X.w) X.A (call (.ref C) us) (EP X pins σ Q) X.xe s:=by
 have hq:=h (s.heap.objs.size+1) s.heap.objs.size (I.hok.fresh (Nat.le_succ _)) (I.hok.fresh (Nat.le_refl _)) (Nat.ne_of_lt (Nat.lt_succ_self _))
 have I2:=Zs.made (C:=C) I
 have r2:Z0 (V.ref (s.heap.objs.size+1)::(vs++dvs)) (Value.ref (s.heap.objs.size+1)::(us++ds)):=.cons rfl (r.append hd)
 have hl:(Value.ref (s.heap.objs.size+1)::us++ds).length=ps.length:=by
  have e:=r2.length
  rw [F.len _ _ _ _ hq] at e
  exact e.symm
 refine wpAny_call (make_map (f:=f) I.kIn M.makes M.init (beq_iff_eq.mp M.fn) (codeAny_mono (F.run _ X.stack _ _ ⟨Value.ref (s.heap.objs.size+1)::us,[]⟩ (Value.ref (s.heap.objs.size+1)::(us++ds)) _ _ E (hr.make C us [])
  (I2.env0.make C us []) (hb _ (Value.ref (s.heap.objs.size+1)::us) I2.kIn hl) r2 hq) fun r s' hq'=>?_))
 cases r with
 | error e=>exact hx pins σ _ _ e s' I2 hq'
 | ok fl =>
  cases fl with
  | ret u =>
   obtain ⟨v,H',I3,rv,ev,q3⟩:=I2.after hq'
   subst ev
   exact ⟨rv,⟨V.ref (s.heap.objs.size+1),H',I3,rfl,q3⟩⟩
  | next=>exact False.elim hq'
  | brk=>exact False.elim hq'
  | cont=>exact False.elim hq'
theorem pe_make (M:Mk X.K C f) (F:Yj X.prog X.w X.K X.mg X.base CX k f fd ps sp) (hr:Vm (k+1) X.A) (hg:Gl X x) (hm:X.mg x=some (.ref C)) (hb:Vc X.K fd ps ds) (hd:Z0 dvs ds) (hx:Passes CX X E)
  (ha:PA X (e::es) t) (hdb:(x == ("__debug__" : Str))=false:=by decide) (he:starEach (e::es) X.env=(false,eval e X.env)::starEach es X.env:=by rfl) (hpl:(backTo pos (starEach es X.env)).any (·.1)=false:=by rfl) :
  PE X (.Call (.Name x p) (e::es) [] pos) (tMake C sp dvs E t):=by
 intro pins s σ H Q I h
 refine wpAny_Call_Name_kw (ld_glob I hg hm ?_ hdb)
 refine W.callWith_K (h₀:=X.base) I.ok.mod.kin M.kp (Vv (ha pos pins s σ H _ I h) fun us s1 ⟨vs,H1,I1,r,q⟩=>⟨I1.kIn, ?_⟩) he hpl
 exact run_make M F hr hb hd hx I1 r q
end
section
variable {X:Cx} {CX:CXT} {k:Nat} {f C:Addr} {fd:FuncData} {ps ks:List Str} {sp:Sp} {E:XK} {x m:Str} {p pos apos kpos:Pos} {e o:Expr} {es:List Expr} {kws:List Keyword} {te ta:TE} {t tk:TA} {nm:Option Str}
structure KBinds (K:W.Frag) (fd:FuncData) (ps ks:List Str) (g:List Value->List Value->List Value) (gV:List V->List V->List V):Prop where
 to:∀ (s:Shared) (us ws:List Value),K.In s.heap->(g us ws).length=ps.length->BindsTo s fd ⟨us,ks.zip ws⟩ (ps.zip (g us ws))
 rel:∀ {vs:List V} {us:List Value} {zs:List V} {ws:List Value},Z0 vs us->Z0 zs ws->Z0 (gV vs zs) (g us ws)
variable {g:List Value->List Value->List Value} {gV:List V->List V->List V}
end
structure Zr (N P:List Str) (sc:Scope):Prop where
 kind:sc.kind=.function
 co:sc.isCoroutine=false
 gen:sc.isGenerator=false
 nd:N.Nodup
 pre:N.take P.length=P
 par:∀ x∈P,sc.names.lookup x=some .local\/sc.names.lookup x=some .cell
 nofree:∀ y∈sc.names,y.2≠.free
theorem bindL_out {kindOf:Str->Option NameKind} {x:Str}:∀ {binds:List (Str × Value)} {m:Str->Option Value},(∀ v,(x,v) ∉ binds)->bindL kindOf binds m x=m x
 | [],_,_=>rfl
 | (n,v)::r,m,h=>by
  unfold bindL
  rw [bindL_out fun w hw=>h w (List.mem_cons_of_mem _ hw)]
  split
  ·have:x≠n:=by rintro rfl; exact h v List.mem_cons_self
   simp [this]
  ·rfl
theorem bindC_out {kindOf:Str->Option NameKind} {x:Str}:∀ {binds:List (Str × Value)} {m:Str->Option Value},(∀ v,(x,v) ∉ binds)->bindC kindOf binds m x=m x
 | [],_,_=>rfl
 | (n,v)::r,m,h=>by
  unfold bindC
  rw [bindC_out fun w hw=>h w (List.mem_cons_of_mem _ hw)]
  split
  ·rfl
  ·have:x≠n:=by rintro rfl; exact h v List.mem_cons_self
   simp [this]
theorem bindL_get {kindOf:Str->Option NameKind} {x:Str} {v:Value}:∀ {P:List Str} {vs:List Value} {i:Nat} {m:Str->Option Value},P.Nodup->P[i]?=some x->vs[i]?=some v->kindOf x=some .local ->
  bindL kindOf (P.zip vs) m x=some v
 | [],_,_,_,_,h,_,_=>by simp at h
 | _::_,[],_,_,_,_,h,_=>by simp at h
 | p::P,w::vs,0,m,nd,h1,h2,hk=>by
  simp at h1 h2; subst h1; subst h2
  show bindL kindOf ((p,w)::P.zip vs) m p=_
  unfold bindL
  rw [bindL_out fun v hv=>(List.nodup_cons.mp nd).1 (List.of_mem_zip hv).1,if_pos hk]
  simp
 | p::P,w::vs,i+1,m,nd,h1,h2,hk=>by
  show bindL kindOf ((p,w)::P.zip vs) m x=_
  unfold bindL
  exact bindL_get (i:=i) (List.nodup_cons.mp nd).2 (by simpa using h1) (by simpa using h2) hk
theorem bindC_get {kindOf:Str->Option NameKind} {x:Str} {v:Value}:∀ {P:List Str} {vs:List Value} {i:Nat} {m:Str->Option Value},P.Nodup->P[i]?=some x->vs[i]?=some v->kindOf x≠some .local ->
  bindC kindOf (P.zip vs) m x=some v
 | [],_,_,_,_,h,_,_=>by simp at h
 | _::_,[],_,_,_,_,h,_=>by simp at h
 | p::P,w::vs,0,m,nd,h1,h2,hk=>by
  simp at h1 h2; subst h1; subst h2
  show bindC kindOf ((p,w)::P.zip vs) m p=_
  unfold bindC
  rw [bindC_out fun v hv=>(List.nodup_cons.mp nd).1 (List.of_mem_zip hv).1,if_neg hk]
  simp
 | p::P,w::vs,i+1,m,nd,h1,h2,hk=>by
  show bindC kindOf ((p,w)::P.zip vs) m x=_
  unfold bindC
  exact bindC_get (i:=i) (List.nodup_cons.mp nd).2 (by simpa using h1) (by simpa using h2) hk
def start (N:List Str) (vs:List V):St:=vs.map some++List.replicate (N.length - vs.length) none
def cxOf (CX:CXT) (P:Program) (w:World) (K:W.Frag) (mg:Str->Option Value) (base:Heap) (N:List Str) (qual:Str) (scope:Scope) (f:Addr) (cd:Value) (A:Around) (outer:List Env) (s:Shared) (H:Hp) (E:XK):Cx where
 prog:=P
 w:=w
 K:=K
 mg:=mg
 base:=base
 A:=A.deeper (envOfC qual scope s.heap.objs.size f cd)
 N:=N
 s₀:=s
 H₀:=H
 env:=envOfC qual scope s.heap.objs.size f cd
 outer:=outer
 stack:=envOfC qual scope s.heap.objs.size f cd::outer
 ex:=[]
 calm:=true
 fn:=fun _=>true
 pn:=[]
 xe:=fun e s'=>wpAny (model P w) (A.deeper (envOfC qual scope s.heap.objs.size f cd)) (leaving (envOfC qual scope s.heap.objs.size f cd) e) (fun _ s''=>CX outer H s E e s'') (fun e' s''=>CX outer H s E e' s'') s'
theorem cell_has {sc:Scope} {n:Nat} {x:Str} (h:sc.names.lookup x=some .cell):∃ c,(cellsFrom n sc.names []).lookup x=some c:=by
 have q:=W.cellsFrom_some sc.names n [] (.inl h)
 exact Option.isSome_iff_exists.mp q
theorem inv_start {CX:CXT} {P:Program} {w:World} {K:W.Frag} {mg:Str->Option Value} {base:Heap} {N ps:List Str} {qual:Str} {scope:Scope} {f:Addr} {cd:Value} {A:Around} {outer:List Env} {s s1:Shared} {H:Hp} {E:XK} {us:List Value} {vs:List V}
  (S:Zr N ps scope) (hd:A.handled=none) (e0:Env0 P w K mg base A outer s H) (hl:vs.length=ps.length) (r:Z0 vs us)
  (x:InCallC s s.heap.objs.size (bindL (envOfC qual scope s.heap.objs.size f cd).kindOf (ps.zip us) fun _=>none) (cellsFrom (s.heap.objs.size+1) scope.names []) (bindC (envOfC qual scope s.heap.objs.size f cd).kindOf (ps.zip us) fun _=>none) s1) :
  Zs (cxOf CX P w K mg base N qual scope f cd A outer s H E) [] (start N vs) H s1:=by
 have hpl:ps.length<=N.length:=by have:=congrArg List.length S.pre; rw [List.length_take] at this; omega
 obtain ⟨h1,tk,rfl,hk⟩:=x.done
 have noA:∀ b:Addr,b ∉ (cxOf CX P w K mg base N qual scope f cd A outer s H E).ex:=fun b z=>absurd (show b∈([]:List Addr) from z) (by simp)
 refine ⟨⟨e0.mod,S.kind,rfl,rfl,Nat.le_refl _,fun y z c h1 h2=>?_,fun y hy=>?_,fun y c _ h=>?_,fun _=>hd,Around.frames_deeper e0.frames,.inr ⟨rfl,rfl⟩,fun b z=>absurd z (noA b),e0.bs,e0.bsz,fun b _ _=>noA b,fun b z=>absurd z (noA b),e0.funs,e0.frf⟩,
  rfl,e0.bare,Un.kept hk,⟨_,x.toInCall.ns,fun i y v h1 h2 h3=>?_⟩,fun y c h=>⟨_,x.cell y c h⟩,e0.hok.fresh (Nat.le_refl _),fun y c h=>?_,fun p hp=>absurd (show p∈([]:List (Addr × Obj)) from hp) (by simp),e0.hok.kept hk, ?_⟩
 ·exact name_of_addr x.apart (PySem.mem_of_lookup h1) (PySem.mem_of_lookup h2)
 ·have hy:scope.names.lookup y=some .cell\/scope.names.lookup y=some .free:=hy
  rcases hy with hy | hy
  ·exact cell_has hy
  ·exact absurd rfl (S.nofree _ (PySem.mem_of_lookup hy))
 ·exact Nat.le_of_lt (x.above y c (PySem.mem_of_lookup h))
 ·have hi:i<vs.length:=by
   unfold start at h2
   by_cases hi:i<vs.length
   ·exact hi
   ·rw [List.getElem?_append_right (by simpa using hi)] at h2
    rw [List.getElem?_replicate] at h2
    split at h2 <;> cases h2
  have ha:vs[i]?=some v:=by
   unfold start at h2
   rw [List.getElem?_append_left (by simpa using hi),List.getElem?_map] at h2
   cases e:vs[i]? with
   | none=>rw [e] at h2; cases h2
   | some a=>rw [e] at h2; cases h2; rfl
  obtain ⟨u,hu,rv⟩:=r.get ha
  have hp:ps[i]?=some y:=by
   rw [<-S.pre,List.getElem?_take_of_lt (by omega)]; exact h1
  have ndP:ps.Nodup:=by rw [<-S.pre]; exact S.nd.sublist (List.take_sublist _ _)
  refine ⟨u,rv, ?_⟩
  rcases S.par y (List.mem_of_getElem? hp) with k | k
  ·exact .inl ⟨k,bindL_get ndP hp hu k⟩
  ·obtain ⟨c,e⟩:=cell_has (n:=s.heap.objs.size+1) k
   refine .inr ⟨.inl k,c,e, ?_⟩
   have q:=x.cell y c e
   rw [bindC_get ndP hp hu (by show scope.names.lookup y≠_; rw [k]; decide)] at q
   exact q
 ·exact e0.hok.fresh (Nat.le_of_lt (x.above y c (PySem.mem_of_lookup h)))
 ·unfold start
  show _=N.length
  rw [List.length_append,List.length_map,List.length_replicate]
  omega
theorem fn_of {CX:CXT} {P:Program} {w:World} {K:W.Frag} {mg:Str->Option Value} {base:Heap} {k:Nat} {f:Addr} {name qual:Str} {params:Arguments} {body:List Stmt} {scope:Scope} {dV kV doc pm cdv ct oc:Value} {an od:Option Addr}
  {osl:Array (Option Value)} {N ps:List Str} {sp:Sp} (lk:K.lookup f=some ⟨oc,od,.func (W.fnOf name qual params body scope dV kV doc pm an cdv ct),osl⟩) (hcd:W.codeIn K cdv qual=true) (S:Zr N ps scope)
  (len:∀ vs H Q E,sp vs H Q E->vs.length=ps.length)
  (hbody:∀ (A:Around) (outer:List Env) (s:Shared) (H:Hp) (vs:List V) (Q:VK) (E:XK),Vm k (A.deeper (envOfC qual scope s.heap.objs.size f cdv))->sp vs H Q E ->
   ∃ t,PSs (cxOf CX P w K mg base N qual scope f cdv A outer s H E) body t/\t { nx:=fun _ H'=>Q .non H',rt:=Q } (start N vs) H) :
  Yj P w K mg base CX (k+1) f (W.fnOf name qual params body scope dV kV doc pm an cdv ct) ps sp:=by
 refine ⟨len,fun A outer s H args us vs Q E hr e0 hb r hsp=>?_⟩
 have hl:=len _ _ _ _ hsp
 have KX:K.In s.heap:=e0.mod.kin.keeps fun b o e=>(e0.bs b o e).1
 have lim:s.heap.NoLimit:=e0.mod.nolimit.keeps fun b o e=>(e0.bs b o e).1
 have hkind:∀ y∈ps.zip us,scope.names.lookup y.1=some .local\/(scope.names.lookup y.1=some .cell/\((cellsFrom (s.heap.objs.size+1) scope.names []).lookup y.1).isSome=true):=fun ⟨n,v⟩ hy=>by
  rcases S.par n (List.of_mem_zip hy).1 with q | q
  ·exact .inl q
  ·exact .inr ⟨q,W.cellsFrom_some _ _ _ (.inl q)⟩
 refine codeAny_call_function hr.depth (KX _ _ lk) rfl S.co S.gen rfl (W.codeRec_of KX hcd) (hb _ _ _ _ ?_)
 refine wpAny_newFunctionEnv_cells S.kind hkind fun env he s1 x=>?_
 subst he
 refine ⟨lim.keeps x.toInCall.keep,codeAny_func ?_⟩
 obtain ⟨t,ht,hq⟩:=hbody A outer s H vs Q E (hr.deeper _) hsp
 have I:Zs (cxOf CX P w K mg base N qual scope f cdv A outer s H E) [] (start N vs) H s1:=inv_start S hr.hd e0 hl r x
 refine wpAny_mono (ht [] s1 (start N vs) H _ I hq) (fun fl s' hs=>?_) fun e s' hs=>hs
 have fin:∀ {σ':St} {H':Hp} {v:V} {u:Value},Zs (cxOf CX P w K mg base N qual scope f cdv A outer s H E) [] σ' H' s'->Yq v u->Q v H'->CE outer P w H s Q u s' :=
  fun {σ' H' v u} J rv q=>⟨v,H',J.os,J.bare,J.base,J.hok,rv,q⟩
 cases fl with
 | ret u =>
  obtain ⟨v,σ',H',J,rv,q⟩:=hs
  exact fin J rv q
 | next =>
  obtain ⟨σ',H',J,q⟩:=hs
  exact fin (v:=V.non) (u:=Value.none) J rfl q
 | brk =>
  obtain ⟨_,_,_,q⟩:=hs
  exact False.elim q
 | cont =>
  obtain ⟨_,_,_,q⟩:=hs
  exact False.elim q
section
variable {X:Cx} {x:Str} {p pos:Pos} {e:Expr} {es:List Expr} {t:TA} {id T:String} {r:List V->Hp->VK->Prop}
def tCB (r:List V->Hp->VK->Prop) (t:TA):TE:=fun σ H Q=>t σ H fun vs H1=>r vs H1 Q
theorem Z9 (hc:CallR X (.builtin id) r) (hg:Gl X x) (hm:X.mg x=none) (hv:bootBuiltins x=some (.builtin id)) (ha:PA X (e::es) t) (hn:x ≠ "__name__" := by decide) (hdb:(x == ("__debug__" : Str))=false:=by decide)
  (he:starEach (e::es) X.env=(false,eval e X.env)::starEach es X.env:=by rfl) (hpl:(backTo pos (starEach es X.env)).any (·.1)=false:=by rfl):PE X (.Call (.Name x p) (e::es) [] pos) (tCB r t):=by
 intro pins s σ H Q I h
 refine wpAny_Call_Name_kw (Ud I hg hm hv ?_ hn hdb)
 exact callWith_builtin1 (Vv (ha pos pins s σ H _ I h) fun us s1 ⟨vs,H1,I1,r1,q1⟩=>hc pins s1 σ H1 vs us Q I1 r1 q1) he hpl
theorem Yn (hc:CallR X (.type T) r) (hg:Gl X x) (hm:X.mg x=none) (hv:bootBuiltins x=some (.type T)) (ha:PA X (e::es) t) (hn:x ≠ "__name__" := by decide) (hdb:(x == ("__debug__" : Str))=false:=by decide)
  (he:starEach (e::es) X.env=(false,eval e X.env)::starEach es X.env:=by rfl) (hpl:(backTo pos (starEach es X.env)).any (·.1)=false:=by rfl):PE X (.Call (.Name x p) (e::es) [] pos) (tCB r t):=by
 intro pins s σ H Q I h
 refine wpAny_Call_Name_kw (Ud I hg hm hv ?_ hn hdb)
 exact callWith_type1 (Vv (ha pos pins s σ H _ I h) fun us s1 ⟨vs,H1,I1,r1,q1⟩=>hc pins s1 σ H1 vs us Q I1 r1 q1) he hpl
end
end L2
namespace HT
open PySem PyProof.Rows
section
open PySem.SeqAt
open PySem.AutoSeq1 (wpAny_loadPart')
open PySem.MeetsSeq PySem.MeetsSeq2 PySem.MeetsSeq3
end
section
variable {prog:Program} {w:World} {A:Around} {E:Value->Shared->Prop} {s:Shared}
theorem cat_tup {t b:Addr} {vs ws:List Value} {Q:Value->Shared->Prop} (ht:IsTup s.heap t vs.toArray) (hb:IsTup s.heap b ws.toArray) (hv:vs≠[])
  (h1:ws=[]->Q (.ref t) s) (h2:ws≠[]->Q (.ref s.heap.objs.size) { s with heap:=s.heap.push { cls:=.type "tuple",data:=.seq (vs++ws).toArray } })
  (hsz:vs.length+ws.length<=sizeLine):wpAny (model prog w) A (binaryOp .Add (.ref t) (.ref b)) Q E s:=by
 obtain ⟨⟨cls,dd,data,sl⟩,ho,hc,n,hd⟩:=id ht
 obtain ⟨⟨cls2,dd2,data2,sl2⟩,ho2,hc2,n2,hd2⟩:=id hb
 simp only at hc hd hc2 hd2
 subst hc hd hc2 hd2
 have e:vs.toArray++ws.toArray=(vs++ws).toArray:=by simp
 by_cases hw:ws=[]
 ·exact concat_meets ⟨_,ho,rfl⟩ ⟨_,ho2,rfl⟩ noFill_tuple_add seq_tuple_add PySem.F.slot_tuple_add PySem.F.entry_tuple_add (PySem.F.args_tuple_add_2 _ _)
   (tuple_addW1 t b vs.toArray ws.toArray n n2 dd dd2 sl sl2 (by simpa using hv) (by simp [hw])) ⟨ho,ho2,h1 hw⟩
 ·refine concat_meets ⟨_,ho,rfl⟩ ⟨_,ho2,rfl⟩ noFill_tuple_add seq_tuple_add PySem.F.slot_tuple_add PySem.F.entry_tuple_add (PySem.F.args_tuple_add_2 _ _)
   (tuple_addW2 t b vs.toArray ws.toArray n n2 dd dd2 sl sl2 (by simpa using hv) (by simpa using hw) (by rw [List.size_toArray,List.size_toArray]; exact hsz)) ⟨ho,ho2, ?_⟩
  rw [e]
  exact h2 hw
def sIx (n d:Nat):Option Int->Nat
 | none=>d
 | some v=>if v<0 then (v+(n:Int)).toNat else min v.toNat n
theorem sIx_none (n d:Nat):sIx n d none=d:=rfl
theorem sIx_nat (n d k:Nat):sIx n d (some (k:Int))=min k n:=by
 show (if (k:Int)<0 then ((k:Int)+(n:Int)).toNat else min (k:Int).toNat n)=min k n
 rw [if_neg (by omega),Int.toNat_natCast]
end
end HT
namespace L2
open PySem PySem.Spec PyProof.Rows
abbrev TO:=St->Hp->(Option Int->Hp->Prop)->Prop
def PO (X:Cx) (e:Option Expr) (t:TO):Prop :=
 ∀ (pins:List (Addr × Obj)) (s:Shared) (σ:St) (H:Hp) (Q:Option Int->Hp->Prop),Zs X pins σ H s->t σ H Q ->
  wpAny (model X.prog X.w) X.A (evalPart e X.env) (fun u s'=>∃ o H',Zs X pins σ H' s'/\IsPart u o/\Q o H') X.xe s
def tNoPart:TO:=fun _ H Q=>Q none H
def tPart (t:TE):TO:=fun σ H Q=>t σ H fun x H1=>∃ i,x=.int i/\Q (some i) H1
section
variable {X:Cx} {e:Expr} {te:TE} {lo hi:Option Expr} {tl th:TO} {pos p2:Pos}
theorem po_none:PO X none tNoPart:=by
 intro pins s σ H Q I h
 rw [evalPart_none]
 exact wpAny_pure ⟨none,H,I,.none,h⟩
theorem po_some (h:PE X e te):PO X (some e) (tPart te):=by
 intro pins s σ H Q I hw
 rw [evalPart_some]
 refine Vv (h pins s σ H _ I hw) fun u s1 ⟨x,H1,I1,r1,q1⟩=>?_
 obtain ⟨i,rfl,q⟩:=q1
 obtain ⟨t,rfl⟩:=r1
 exact ⟨some i,H1,I1,.int i t,q⟩
def SlR (X:Cx) (r:V->Option Int->Option Int->Hp->VK->Prop):Prop :=
 ∀ (pins:List (Addr × Obj)) (s:Shared) (σ:St) (H:Hp) (x:V) (v vl vu:Value) (lo hi:Option Int) (sl:Addr) (Q:VK),Zs X pins σ H s->Yq x v->s.heap.IsSliceOf sl vl vu .none->IsPart vl lo->IsPart vu hi->r x lo hi H Q ->
  ∃ T id,typeLookup (.type T) "__getitem__" = pure (some (.builtin id))/\s.TypeIs v T/\wpAny (model X.prog X.w) X.A (getItem v (.ref sl)) (EP X pins σ Q) X.xe s
def tSl (r:V->Option Int->Option Int->Hp->VK->Prop) (te:TE) (tl th:TO):TE:=fun σ H Q=>te σ H fun x H1=>tl σ H1 fun l H2=>th σ H2 fun u H3=>r x l u H3 Q
theorem pe_slice {r:V->Option Int->Option Int->Hp->VK->Prop} (hr:SlR X r) (he:PE X e te) (hl:PO X lo tl) (hu:PO X hi th):PE X (.Subscript e (.Slice lo hi none p2) pos) (tSl r te tl th):=by
 intro pins s σ H Q I h
 refine Subscript_ (Vv (he pins s σ H _ I h) fun v s1 ⟨x,H1,I1,r1,q1⟩=>?_)
 refine wpAny_Slice (Vv (hl pins s1 σ H1 _ I1 q1) fun vl s2 ⟨l,H2,I2,pl,q2⟩=>Vv (hu pins s2 σ H2 _ I2 q2) fun vu s3 ⟨u,H3,I3,pu,q3⟩=>?_)
 rw [evalPart_none]
 refine wpAny_pure ?_
 have I4:Zs X pins σ H3 { s3 with heap:=s3.heap.push { cls:=.type "slice",data:=.fields #[vl,vu,.none] } }:=I3.kept (t':=s3.toks) fun b ob q=>Heap.get?_push_of_some _ q
 obtain ⟨T,id,hT,ht,hg⟩:=hr pins { s3 with heap:=s3.heap.push { cls:=.type "slice",data:=.fields #[vl,vu,.none] } } σ H3 x v vl vu l u s3.heap.objs.size Q I4 r1 (Heap.IsSliceOf.new ..) pl pu q3
 show wpAny (model X.prog X.w) X.A (subscriptTail e (.Slice lo hi none p2) v (.ref s3.heap.objs.size)) (EP X pins σ Q) X.xe { s3 with heap:=s3.heap.push { cls:=.type "slice",data:=.fields #[vl,vu,.none] } }
 exact tail_any (ops:=[.ref s3.heap.objs.size,v]) ht hT hg (by with_unfolding_all rfl)
def cutV (xs:List V) (lo hi:Option Int):List V:=(xs.drop (HT.sIx xs.length 0 lo)).take (HT.sIx xs.length xs.length hi - HT.sIx xs.length 0 lo)
theorem cutV_length (xs:List V) (lo hi:Option Int):(cutV xs lo hi).length<=xs.length:=by
 unfold cutV
 rw [List.length_take,List.length_drop]
 omega
def rCatT (K:W.Frag):R2:=fun x y H Q=>∃ a b xs ys,x=.ref a/\y=.ref b/\Yg K H a xs/\Yg K H b ys/\xs≠[]/\xs.length+ys.length<=sizeLine /\
 (ys=[]->Q (.ref a) H)/\(ys≠[]->∀ p,H p=none->Q (.ref p) (Z6 H p (.tup (xs++ys))))
theorem Z0.nil_iff {xs:List V} {us:List Value} (r:Z0 xs us):us=[] ↔ xs=[]:=by
 cases r with
 | nil=>simp
 | cons _ _=>simp
theorem op_catT:OpR X (binaryOp .Add) (rCatT X.K):=by
 intro pins s σ H x y v u Q I rx ry h
 obtain ⟨a,b,xs,ys,rfl,rfl,ha,hb,hx,hz,q1,q2⟩:=h
 cases rx
 cases ry
 obtain ⟨its,r1,p1,_⟩:=I.tuple ha
 obtain ⟨its2,r2,p2,_⟩:=I.tuple hb
 refine HT.cat_tup p1 p2 (fun z=>hx (r1.nil_iff.mp z)) (fun z=>⟨.ref a,H,I,rfl,q1 (r2.nil_iff.mp z)⟩) (fun z=>?_) (by rw [<-r1.length, <-r2.length]; exact hz)
 refine ⟨.ref s.heap.objs.size,_,I.laid (t':=s.toks) (o:=.tup (xs++ys)) (fun b ob q=>Heap.get?_push_of_some _ q) (Nat.le_refl _) ?_,rfl,q2 (fun w=>z (r2.nil_iff.mpr w)) _ (I.hok.fresh (Nat.le_refl _))⟩
 exact ⟨by rw [List.length_append]; exact hz,_,r1.append r2,IsTup.new _ _⟩
end
def ixN (n:Nat) (i:Int):Option Nat:=if 0<=i then (if i<n then some i.toNat else none) else if -(n:Int)<=i then some (i+n).toNat else none
def atI {α:Type} (xs:List α) (i:Int):Option α:=(ixN xs.length i).bind fun j=>xs[j]?
theorem ixN_seq {n:Nat} {i:Int} {j:Nat} (h:ixN n i=some j):seqIndex? i n=some j/\j<n/\-(n:Int)<=i/\i<n:=by
 unfold ixN at h
 by_cases h0:0<=i
 ·rw [if_pos h0] at h
  by_cases h1:i<n
  ·rw [if_pos h1] at h
   have e:i.toNat=j:=Option.some.inj h
   exact ⟨by rw [seqIndex_of h0 h1,e],by omega,by omega,h1⟩
  ·rw [if_neg h1] at h; cases h
 ·rw [if_neg h0] at h
  by_cases h1:-(n:Int)<=i
  ·rw [if_pos h1] at h
   have e:(i+n).toNat=j:=Option.some.inj h
   exact ⟨by rw [seqIndex_neg (by omega) h1,e],by omega,h1,by omega⟩
  ·rw [if_neg h1] at h; cases h
theorem atI_get {α:Type} {xs:List α} {i:Int} {v:α} (h:atI xs i=some v):∃ j,seqIndex? i xs.length=some j/\xs[j]?=some v/\j<xs.length/\-(xs.length:Int)<=i/\i<xs.length:=by
 unfold atI at h
 cases e:ixN xs.length i with
 | none=>rw [e] at h; cases h
 | some j =>
  rw [e] at h
  obtain ⟨h1,h2,h3,h4⟩:=ixN_seq e
  exact ⟨j,h1,h,h2,h3,h4⟩
theorem Z1 {α:Type} {xs:List α} {j:Nat} {v:α} (h:xs[j]?=some v):atI xs (j:Int)=some v:=by
 have hj:j<xs.length:=(List.getElem?_eq_some_iff.mp h).1
 have e:ixN xs.length (j:Int)=some j:=by
  unfold ixN
  rw [if_pos (by omega),if_pos (by omega)]; simp
 unfold atI; rw [e]; exact h
theorem atI_last {α:Type} (xs:List α) (v:α):atI (xs++[v]) (-1)=some v:=by
 have hl:(xs++[v]).length=xs.length+1:=by simp
 have e:ixN (xs++[v]).length (-1)=some xs.length:=by
  unfold ixN
  rw [hl,if_neg (by decide),if_pos (by omega)]
  congr 1
  omega
 unfold atI
 rw [e]
 show (xs++[v])[xs.length]?=some v
 simp
def PlainIx (b:Expr):Prop:=∀ o i,subscripted b false o i=operate [o,i] (getItem o i)
def IxR (X:Cx) (r:R2):Prop :=
 ∀ (value slice:Expr) (pins:List (Addr × Obj)) (s:Shared) (σ:St) (H:Hp) (x y:V) (v u:Value) (Q:VK),Zs X pins σ H s->Yq x v->Yq y u->r x y H Q ->
  subscripted slice false v u=operate [v,u] (getItem v u)->wpAny (model X.prog X.w) X.A (subscriptTail value slice v u) (EP X pins σ Q) X.xe s
def MtR (X:Cx) (id:String) (r:V->List V->Hp->VK->Prop):Prop :=
 ∀ (pins:List (Addr × Obj)) (s:Shared) (σ:St) (H:Hp) (x:V) (xs:List V) (v:Value) (us:List Value) (Q:VK),Zs X pins σ H s->Yq x v->Z0 xs us->r x xs H Q ->
  wpAny (model X.prog X.w) X.A (call (.builtin id) (v::us)) (EP X pins σ Q) X.xe s
section
variable {X:Cx} {a b:Expr} {ta tb:TE} {pos:Pos}
theorem IxR.or {r r':R2} (h:IxR X r) (h':IxR X r'):IxR X (fun x y H Q=>r x y H Q\/r' x y H Q):=by
 intro value slice pins s σ H x y v u Q I rx ry q hs
 rcases q with q | q
 ·exact h value slice pins s σ H x y v u Q I rx ry q hs
 ·exact h' value slice pins s σ H x y v u Q I rx ry q hs
theorem Za {r:R2} (hr:IxR X r) (ha:PE X a ta) (hb:PE X b tb) (hs:PlainIx b):PE X (.Subscript a b pos) (tOp r ta tb):=by
 intro pins s σ H Q I h
 exact Subscript_ (binT ha hb I h fun v u s2 x y H2 I2 rx ry q=>hr a b pins s2 σ H2 x y v u Q I2 rx ry q (hs _ _))
def rIxL (K:W.Frag):R2:=fun x y H Q=>∃ p xs i v,x=.ref p/\y=.int i/\Yc K H p xs/\atI xs i=some v/\Q v H
def rIxT (K:W.Frag):R2:=fun x y H Q=>∃ p xs i v,x=.ref p/\y=.int i/\Yg K H p xs/\atI xs i=some v/\Q v H
def rIxS:R2:=fun x y H Q=>∃ z i c,x=.str z/\y=.int i/\z.length<=sizeLine/\atI z.cps.toList i=some c/\Q (.str ⟨#[c]⟩) H
theorem Z8:IxR X (rIxL X.K):=by
 intro value slice pins s σ H x y v u Q I rx ry h hs
 obtain ⟨p,xs,i,z,rfl,rfl,hq,he,q⟩:=h
 cases rx
 obtain ⟨t,rfl⟩:=ry
 obtain ⟨its,r,pl,hz⟩:=I.list hq
 obtain ⟨j,h1,h2,h3,h4,h5⟩:=atI_get he
 obtain ⟨w,ew,rw'⟩:=r.get h2
 have hl:=r.length
 have hn:=line63
 have fin:EP X pins σ Q w s:=⟨z,H,I,rw',q⟩
 by_cases h0:0<=i
 ·have hj:i.toNat=j:=by
   rw [seqIndex_of h0 h5] at h1
   exact Option.some.inj h1
  exact item_listR pl.isList h0 (by omega) (by rw [hj]; simpa using ew) fin hs
 ·have hj:(i+(its.toArray.size:Int)).toNat=j:=by
   rw [seqIndex_neg (by omega) h4] at h1
   rw [List.size_toArray, <-hl]
   exact Option.some.inj h1
  exact subscriptTail_builtinR (x:=w) pl.isList.typeIs slot_list_getitem.lookup
   (wpAny_getItem_list_neg (Q:=fun r s'=>r=w/\EP X pins σ Q r s') pl.isList (by omega) (by rw [List.size_toArray] <;> omega) (by omega) (by rw [hj]; simpa using ew) ⟨rfl,fin⟩) hs
theorem Yh:IxR X (rIxT X.K):=by
 intro value slice pins s σ H x y v u Q I rx ry h hs
 obtain ⟨p,xs,i,z,rfl,rfl,hq,he,q⟩:=h
 cases rx
 obtain ⟨t,rfl⟩:=ry
 obtain ⟨its,r,pl,hz⟩:=I.tuple hq
 obtain ⟨j,h1,h2,h3,h4,h5⟩:=atI_get he
 obtain ⟨w,ew,rw'⟩:=r.get h2
 have hl:=r.length
 have hn:=line63
 have fin:EP X pins σ Q w s:=⟨z,H,I,rw',q⟩
 exact subscriptTail_builtinR (x:=w) pl.typeIs slot_tuple_getitem.lookup
  (getItem_tuple (j:=j) (Q:=fun r s'=>r=w/\EP X pins σ Q r s') pl (by omega) (by omega) (by rw [List.size_toArray, <-hl]; exact h1) (by simpa using ew) ⟨rfl,fin⟩) hs
theorem ix_str:IxR X rIxS:=by
 intro value slice pins s σ H x y v u Q I rx ry h hs
 obtain ⟨z,i,c,rfl,rfl,hz,he,q⟩:=h
 obtain ⟨t,rfl⟩:=rx
 obtain ⟨t',rfl⟩:=ry
 obtain ⟨j,h1,h2,h3,h4,h5⟩:=atI_get he
 have hl:z.cps.toList.length=z.length:=by simp [Str.length]
 rw [hl] at h1 h4 h5
 have hn:=line63
 exact tail_any (typeIs_str s z t) slot_str_getitem.lookup (getItem_str (c:=c) (by
  have e1:decide (i < -(2 ^ 63:Int))=false:=decide_eq_false (by omega)
  have e2:decide (i ≥ 2 ^ 63)=false:=decide_eq_false (by omega)
  rw [e1,e2,Bool.or_false]) (by rw [h1]; simpa using h2) ⟨.str ⟨#[c]⟩,H,I.tok _,⟨_,rfl⟩,q⟩) hs
def rIx (K:W.Frag):R2:=fun x y H Q=>rIxL K x y H Q\/rIxT K x y H Q\/rIxS x y H Q
theorem ix_seq:IxR X (rIx X.K):=Z8.or (Yh.or ix_str)
theorem mapSeq_set (its:List Value) (n j:Nat) (u:Value):Obj.mapSeq (·.setIfInBounds j u) { cls:=.type "list",data:=.seq its.toArray n }={ cls:=.type "list",data:=.seq (its.set j u).toArray n }:=by
 simp [Obj.mapSeq]
theorem Zs.lst {pins:List (Addr × Obj)} {σ:St} {H:Hp} {s:Shared} {p:Addr} {xs:List V} (I:Zs X pins σ H s) (h:H p=some (.lst xs)) :
  ∃ (its:List Value) (n:Nat),Z0 xs its/\s.heap.get? p=some { cls:=.type "list",data:=.seq its.toArray n }/\xs.length<=sizeLine:=by
 obtain ⟨z,its,n,r,e⟩:=I.hok p _ h
 exact ⟨its,n,r,e,z⟩
theorem Zs.lstUpd {pins:List (Addr × Obj)} {σ:St} {H:Hp} {s:Shared} {p:Addr} {xs ys:List V} {its its':List Value} {n n':Nat} {f:Obj->Obj} (I:Zs X pins σ H s) (h:H p=some (.lst xs))
  (ho:s.heap.get? p=some { cls:=.type "list",data:=.seq its.toArray n }) (hf:f { cls:=.type "list",data:=.seq its.toArray n }={ cls:=.type "list",data:=.seq its'.toArray n' }) (r:Z0 ys its') (hz:ys.length<=sizeLine) (t:Nat) :
  Zs X pins σ (Z6 H p (.lst ys)) { s with heap:=s.heap.update p f,toks:=t }:=by
 have e:(s.heap.update p f).get? p=some { cls:=.type "list",data:=.seq its'.toArray n' }:=by
  rw [Heap.get?_update_self f ho (by rw [hf] <;> rfl),hf]
 refine I.write (x:=p) (e:=p) (by rw [h]; trivial) (.inl rfl) (fun b u hb q=>(Heap.get?_update_other _ _ (Ne.symm hb)).trans q) ⟨_,e⟩ ?_
 exact ⟨hz,its',n',r,e⟩
def rSetL:V->V->V->Hp->(Hp->Prop)->Prop:=fun o i v H Q=>∃ p xs k j,o=.ref p/\i=.int k/\H p=some (.lst xs)/\ixN xs.length k=some j/\Q (Z6 H p (.lst (xs.set j v)))
theorem set_list:PSet X rSetL:=by
 intro pins s σ H o i v ov iv u Q I ro ri rv h
 obtain ⟨p,xs,k,j,rfl,rfl,hp,hj,q⟩:=h
 cases ro
 obtain ⟨t,rfl⟩:=ri
 obtain ⟨its,n,r,ho,hz⟩:=I.lst hp
 obtain ⟨h1,h2,h3,h4⟩:=ixN_seq hj
 have hl:=r.length
 have hn:=line63
 have I':Zs X pins σ (Z6 H p (.lst (xs.set j v))) { s with heap:=s.heap.update p (Obj.mapSeq (·.setIfInBounds j u)) } :=
  I.lstUpd hp ho (mapSeq_set its n j u) (r.set rv j) (by rw [List.length_set]; exact hz) s.toks
 by_cases h0:0<=k
 ·have hk:k.toNat=j:=by
   rw [seqIndex_of h0 h4] at h1
   exact Option.some.inj h1
  exact W.ki_setAt ho h0 (by omega) (by rw [List.size_toArray, <-hl]; exact h4) (by rw [hk]; exact ⟨_,I',q⟩)
 ·have hk:(k+(its.toArray.size:Int)).toNat=j:=by
   rw [seqIndex_neg (by omega) h3] at h1
   rw [List.size_toArray, <-hl]
   exact Option.some.inj h1
  exact W.ki_setBack ho (by omega) (by rw [List.size_toArray, <-hl]; exact h3) (by omega) (by rw [hk]; exact ⟨_,I',q⟩)
theorem slice_bounds (lo hi:Option Int) (n:Nat):(sliceBounds lo hi none n).1=((HT.sIx n 0 lo:Nat):Int)/\(sliceBounds lo hi none n).2.1=((HT.sIx n n hi:Nat):Int)/\(sliceBounds lo hi none n).2.2=1:=by
 refine ⟨?_, ?_,rfl⟩
 ·cases lo with
  | none=>simp [sliceBounds,HT.sIx]
  | some i =>
   simp only [sliceBounds,HT.sIx,Option.getD_none,show (1:Int)>0 by decide,if_true]
   by_cases h:i<0
   ·simp only [h,if_true] <;> omega
   ·simp only [h,if_false] <;> omega
 ·cases hi with
  | none=>simp [sliceBounds,HT.sIx]
  | some i =>
   simp only [sliceBounds,HT.sIx,Option.getD_none,show (1:Int)>0 by decide,if_true]
   by_cases h:i<0
   ·simp only [h,if_true] <;> omega
   ·simp only [h,if_false] <;> omega
theorem slicePick_cut (its:List Value) (lo hi:Option Int):slicePick its.toArray lo hi none=((its.drop (HT.sIx its.length 0 lo)).take (HT.sIx its.length its.length hi - HT.sIx its.length 0 lo)).toArray:=by
 obtain ⟨h1,h2,h3⟩:=slice_bounds lo hi its.toArray.size
 unfold slicePick
 rw [h1,h2,h3]
 simp only [sliceRange_one,pick_run,List.size_toArray] <;> rfl
def rSlL (K:W.Frag):V->Option Int->Option Int->Hp->VK->Prop:=fun x lo hi H Q=>∃ a xs,x=.ref a/\Yc K H a xs/\∀ p,H p=none->Q (.ref p) (Z6 H p (.lst (cutV xs lo hi)))
theorem sl_list:SlR X (rSlL X.K):=by
 intro pins s σ H x v vl vu lo hi sl Q I rx hs pl pu h
 obtain ⟨a,xs,rfl,hx,q⟩:=h
 cases rx
 obtain ⟨its,r,ht,hz⟩:=I.list hx
 have hlen:=r.length
 refine ⟨"list",_,slot_list_getitem.lookup,ht.isList.typeIs, ?_⟩
 refine wpAny_getItem_list_slice ht.isList hs pl pu .none (by simp) ?_ (by rw [List.size_toArray] <;> omega)
 rw [slicePick_cut, <-hlen]
 refine ⟨.ref s.heap.objs.size,_,I.laid (t':=s.toks) (o:=.lst (cutV xs lo hi)) (fun b ob q=>Heap.get?_push_of_some _ q) (Nat.le_refl _) ?_,rfl,q _ (I.hok.fresh (Nat.le_refl _))⟩
 exact ⟨Nat.le_trans (cutV_length xs lo hi) hz,_,0,(r.drop (HT.sIx xs.length 0 lo)).take (HT.sIx xs.length xs.length hi - HT.sIx xs.length 0 lo),Heap.get?_push_size _ rfl⟩
def flatV:V->Bool
 | .non=>true
 | .bl _=>true
 | .int _=>true
 | .str _=>true
 | _=>false
def eqV:V->V->Bool
 | .non,.non=>true
 | .bl a,.bl b=>a == b
 | .bl a,.int b=>(if a then 1 else 0) == b
 | .int a,.bl b=>a == (if b then 1 else 0)
 | .int a,.int b=>a == b
 | .str a,.str b=>a == b
 | _,_=>false
theorem eqAt_V {A:Around} {s:Shared} {y x:V} {u v:Value} (ry:Yq y u) (rx:Yq x v) (fy:flatV y=true) (fx:flatV x=true):SeqAt.EqAt A s u v (eqV y x):=by
 cases y with
 | non =>
  cases ry
  cases x with
  | non=>cases rx; exact SeqAt.EqAt.same _
  | bl b=>cases rx; exact SeqAt.EqAt.none_bool b
  | int b=>obtain ⟨t,rfl⟩:=rx; exact SeqAt.EqAt.none_int b t
  | str b=>obtain ⟨t,rfl⟩:=rx; exact SeqAt.EqAt.none_str b t
  | _=>exact absurd (show false=true from fx) Bool.false_ne_true
 | bl a =>
  cases ry
  cases x with
  | non=>cases rx; exact SeqAt.EqAt.bool_none a
  | bl b=>cases rx; exact SeqAt.EqAt.bool_bool a b
  | int b=>obtain ⟨t,rfl⟩:=rx; exact SeqAt.EqAt.bool_int a b t
  | str b=>obtain ⟨t,rfl⟩:=rx; exact SeqAt.EqAt.bool_str a b t
  | _=>exact absurd (show false=true from fx) Bool.false_ne_true
 | int a =>
  obtain ⟨t',rfl⟩:=ry
  cases x with
  | non=>cases rx; exact SeqAt.EqAt.int_none a t'
  | bl b=>cases rx; exact SeqAt.EqAt.int_bool a t' b
  | int b=>obtain ⟨t,rfl⟩:=rx; exact SeqAt.EqAt.int_int a t' b t
  | str b=>obtain ⟨t,rfl⟩:=rx; exact SeqAt.EqAt.int_str a t' b t
  | _=>exact absurd (show false=true from fx) Bool.false_ne_true
 | str a =>
  obtain ⟨t',rfl⟩:=ry
  cases x with
  | non=>cases rx; exact SeqAt.EqAt.str_none a t'
  | bl b=>cases rx; exact SeqAt.EqAt.str_bool a t' b
  | int b=>obtain ⟨t,rfl⟩:=rx; exact SeqAt.EqAt.str_int a t' b t
  | str b=>obtain ⟨t,rfl⟩:=rx; exact SeqAt.EqAt.str_str a t' b t
  | _=>exact absurd (show false=true from fx) Bool.false_ne_true
 | _=>exact absurd (show false=true from fy) Bool.false_ne_true
theorem Yy:CallR X (.builtin "len") (fun xs H Q=>∃ p ys,xs=[.ref p]/\(Yc X.K H p ys\/Yg X.K H p ys)/\Q (.int ys.length) H):=by
 intro pins s σ H xs us Q I r h
 obtain ⟨p,ys,rfl,hq,q⟩:=h
 obtain ⟨u,rfl,rx⟩:=vals1 r
 cases rx
 have hn:=line63
 rcases hq with hq | hq
 ·obtain ⟨its,r',pl,hz⟩:=I.list hq
  have hlen:=r'.length
  exact Calls.call_len_list pl.isList (by simp only [List.size_toArray] <;> omega) ⟨.int ys.length,H,I.tok _,⟨s.toks+1,by rw [List.size_toArray,hlen]⟩,q⟩
 ·obtain ⟨its,r',pl,hz⟩:=I.tuple hq
  have hlen:=r'.length
  exact len_tuple pl (by simp only [List.size_toArray] <;> omega) ⟨.int ys.length,H,I.tok _,⟨s.toks+1,by rw [List.size_toArray,hlen]⟩,q⟩
theorem call_len_str:CallR X (.builtin "len") (fun xs H Q=>∃ z,xs=[.str z]/\z.length<=sizeLine/\Q (.int z.length) H):=by
 intro pins s σ H xs us Q I r h
 obtain ⟨z,rfl,hz,q⟩:=h
 obtain ⟨u,rfl,t,rfl⟩:=vals1 r
 have hn:=line63
 exact len_str (by omega) ⟨.int z.length,H,I.tok _,⟨_,rfl⟩,q⟩
theorem call_list_of:CallR X (.type "list") (fun xs H Q=>∃ p ys,xs=[.ref p]/\(Yc X.K H p ys\/Yg X.K H p ys)/\∀ l,H l=none->Q (.ref l) (Z6 H l (.lst ys))):=by
 intro pins s σ H xs us Q I r h
 obtain ⟨p,ys,rfl,hq,q⟩:=h
 obtain ⟨u,rfl,rx⟩:=vals1 r
 cases rx
 have fin:∀ (its:List Value),Z0 ys its->ys.length<=sizeLine->∀ (h':Heap) (c':Nat),(∀ b o',s.heap.get? b=some o'->h'.get? b=some o') ->
   h'.get? s.heap.objs.size=some { cls:=.type "list",dict:=none,data:=.seq its.toArray c',slots:=#[] }->EP X pins σ Q (.ref s.heap.objs.size) { s with heap:=h' }:=fun its r' hz h' c' kp e =>
  ⟨.ref s.heap.objs.size,_,I.laid (t':=s.toks) kp (Nat.le_refl _) (show Vk X.prog X.w _ h' _ (.lst ys) from ⟨hz,its,c',r',e⟩),rfl,q _ (I.hok.fresh (Nat.le_refl _))⟩
 rcases hq with hq | hq
 ·obtain ⟨its,r',pl,hz⟩:=I.list hq
  have hlen:=r'.length
  obtain ⟨o,ho,hc,n,hd⟩:=pl.isList
  exact call_list_seq p (.inl rfl) ho hc hd (fun h' c' kp e=>fin its r' hz h' c' kp e) (by simp only [List.size_toArray] <;> omega)
 ·obtain ⟨its,r',pl,hz⟩:=I.tuple hq
  have hlen:=r'.length
  obtain ⟨o,ho,hc,n,hd⟩:=pl
  exact call_list_seq p (.inr rfl) ho hc hd (fun h' c' kp e=>fin its r' hz h' c' kp e) (by simp only [List.size_toArray] <;> omega)
theorem Yu:CallR X (.type "tuple") (fun xs H Q=>∃ p ys,xs=[.ref p]/\((Yc X.K H p ys/\∀ l,H l=none->Q (.ref l) (Z6 H l (.tup ys)))\/(Yg X.K H p ys/\Q (.ref p) H))):=by
 intro pins s σ H xs us Q I r h
 obtain ⟨p,ys,rfl,h⟩:=h
 obtain ⟨u,rfl,rx⟩:=vals1 r
 cases rx
 rcases h with ⟨hq,q⟩ | ⟨hq,q⟩
 ·obtain ⟨its,r',pl,hz⟩:=I.list hq
  have hlen:=r'.length
  refine call_tuple_list pl.isList (fun h' kp=>?_) (by simp only [List.size_toArray] <;> omega)
  have I1:Zs X pins σ H { s with heap:=h' }:=I.kept (t':=s.toks) kp
  have I2:Zs X pins σ (Z6 H h'.objs.size (.tup ys)) { s with heap:=h'.push { cls:=.type "tuple",data:=.seq its.toArray } } :=
   I1.laid (t':=s.toks) (fun b o e=>Heap.get?_push_of_some _ e) (Nat.le_refl _) (show Vk X.prog X.w _ _ _ (.tup ys) from ⟨hz,its,r',IsTup.new _ _⟩)
  exact ⟨.ref h'.objs.size,_,I2,rfl,q _ (I1.hok.fresh (Nat.le_refl _))⟩
 ·obtain ⟨its,r',pl,hz⟩:=I.tuple hq
  exact call_tuple_same pl ⟨.ref p,H,I,rfl,q⟩
def tyV (K:W.Frag) (T:String) (x:V) (H:Hp):Prop:=match x with
 | .str _=>T = "str"
 | .int _=>T = "int"
 | .ref p=>(T = "list" /\ ∃ xs,Yc K H p xs)\/(T = "tuple" /\ ∃ o,K.lookup p=some o/\o.cls=.type "tuple" /\ o.dict=none) \/
   (T = "dict" /\ ((∃ kvs,H p=some (.dK kvs))\/∃ kvs,H p=some (.dT kvs)))\/(T = "set" /\ ∃ S n,H p=some (.set S n))
 | _=>False
theorem tyV_is {pins:List (Addr × Obj)} {σ:St} {H:Hp} {s:Shared} {T:String} {x:V} {v:Value} (I:Zs X pins σ H s) (r:Yq x v) (ty:tyV X.K T x H) :
  s.TypeIs v T/\∀ a,v=.ref a->∃ ob,s.heap.get? a=some ob/\ob.dict=none:=by
 cases x with
 | str z =>
  obtain ⟨t,rfl⟩:=r
  cases (show T = "str" from ty)
  exact ⟨typeIs_str s z t,fun _ e=>nomatch e⟩
 | int i =>
  obtain ⟨t,rfl⟩:=r
  cases (show T = "int" from ty)
  exact ⟨typeIs_int s i t,fun _ e=>nomatch e⟩
 | ref p =>
  cases r
  rcases ty with ⟨rfl,xs,hq⟩ | ⟨rfl,o,hk,hc,hd⟩ | ⟨rfl,hk⟩ | ⟨rfl,S,n,hk⟩
  ·obtain ⟨its,_,pl,_⟩:=I.list hq
   refine ⟨pl.isList.typeIs,fun a e=>?_⟩
   cases e
   obtain ⟨o,n,e,c,hd,_⟩:=pl
   exact ⟨o,e,hd⟩
  ·refine ⟨⟨o,I.kIn p o hk,hc⟩,fun a e=>?_⟩
   cases e
   exact ⟨o,I.kIn _ o hk,hd⟩
  ·have z:∃ o,s.heap.get? p=some o/\o.ExactDict:=by
    rcases hk with ⟨kvs,hk⟩ | ⟨kvs,hk⟩
    ·obtain ⟨_,_,_,_,o,_,_,e,ex,_⟩:=I.hok p _ hk
     exact ⟨o,e,ex⟩
    ·obtain ⟨_,_,_,_,o,_,_,e,ex,_⟩:=I.hok p _ hk
     exact ⟨o,e,ex⟩
   obtain ⟨o,e,ex⟩:=z
   refine ⟨⟨o,e,ex.1⟩,fun a e2=>?_⟩
   cases e2
   exact ⟨o,e,ex.2.1⟩
  ·obtain ⟨o,_,_,_,e,ex,_⟩:=I.hok p _ hk
   refine ⟨⟨o,e,ex.1⟩,fun a e2=>?_⟩
   cases e2
   exact ⟨o,e,ex.2.1⟩
 | _=>exact False.elim ty
def tBM (K:W.Frag) (T:String) (r:V->List V->Hp->VK->Prop) (to:TE) (t:TA):TE:=fun σ H Q=>to σ H fun x H1=>tyV K T x H1/\t σ H1 fun xs H2=>r x xs H2 Q
variable {o e:Expr} {es:List Expr} {to:TE} {t:TA} {name:Str} {apos cpos:Pos} {T id:String} {r:V->List V->Hp->VK->Prop}
theorem pe_bm (pa:PlainAttrs T) (slot:Slot T name id) (hty:typeOf (.builtin id)=pure (.type "method_descriptor")) (hm:MtR X id r) (ho:PE X o to) (ha:PA X (e::es) t)
  (hbase:attributeBase o name X.env (eval o X.env)=eval o X.env:=by rfl)
  (hfew:((backTo cpos (starEach (e::es) X.env)).all (fun x=>!x.1) && (backToKw cpos (keywordEach [] X.env)).all (fun x=>x.1.isSome)
   && decide ((e::es).length+([]:List Keyword).length+(if ([]:List Keyword).isEmpty then 0 else 1)<30))=true:=by rfl)
  (hline:(apos.endLine == cpos.line)=true:=by rfl) (hs:starEach (e::es) X.env=(false,eval e X.env)::starEach es X.env:=by rfl) (hplain:(backTo cpos (starEach es X.env)).any (·.1)=false:=by rfl) :
  PE X (.Call (.Attribute o name apos) (e::es) [] cpos) (tBM X.K T r to t):=by
 intro pins s σ H Q I h
 refine wpAny_Call_method_late hbase hfew hline rfl (Vv (ho pins s σ H _ I h) fun v s1 ⟨x,H1,I1,r1,ty,q1⟩=>?_)
 obtain ⟨h1,h2⟩:=tyV_is I1 r1 ty
 refine ⟨T,id,pa,slot,hty,h1,h2, ?_⟩
 have hA:=ha cpos pins s1 σ H1 _ I1 q1
 rw [hs] at hA ⊢
 refine Calls.callWith_builtin (by show (false || (backTo cpos (starEach es X.env)).any (·.1))=false; rw [hplain] <;> rfl) (Calls.evalArgs_plain ?_)
 exact Vv hA fun us s2 ⟨vs,H2,I2,r2,q2⟩=>hm pins s2 σ H2 x vs v us Q I2 r1 r2 q2
end
def MtM (X:Cx) (id:String) (r:V->List V->Hp->VK->Prop):Prop :=
 ∀ (pins:List (Addr × Obj)) (s:Shared) (σ:St) (H:Hp) (x:V) (xs:List V) (v:Value) (us:List Value) (Q:VK),Zs X pins σ H s->Yq x v->Z0 xs us->r x xs H Q ->
  wpAny (model X.prog X.w) X.A (call (.builtin id) (v::us)) (EP X pins σ Q) X.xe s
theorem Z0.one:∀ {x:V} {us:List Value},Z0 [x] us->∃ u,us=[u]/\Yq x u
 | _,_,.cons r .nil=>⟨_,rfl,r⟩
theorem Z0.zero:∀ {us:List Value},Z0 [] us->us=[]
 | _,.nil=>rfl
theorem Z0.eraseIdx:∀ {xs:List V} {us:List Value} (i:Nat),Z0 xs us->Z0 (xs.eraseIdx i) (us.eraseIdx i)
 | _,_,_,.nil=>.nil
 | _,_,0,.cons _ t=>t
 | _,_,i+1,.cons r t=>.cons r (Z0.eraseIdx i t)
theorem Z0.reverse {xs:List V} {us:List Value} (h:Z0 xs us):Z0 xs.reverse us.reverse:=by
 induction h with
 | nil=>exact .nil
 | cons r t ih=>rw [List.reverse_cons,List.reverse_cons]; exact Z0.append ih (.cons r .nil)
theorem len_erase {α:Type}:∀ (l:List α) (i:Nat),(l.eraseIdx i).length<=l.length
 | [],_=>Nat.le_refl _
 | _::_,0=>Nat.le_succ _
 | _::r,i+1=>Nat.succ_le_succ (len_erase r i)
section
variable {X:Cx} {pins:List (Addr × Obj)} {σ:St} {H:Hp} {s:Shared} {l b:Addr} {xs ys zs:List V}
theorem Zs.lset {its its':List Value} {n:Nat} {f:Array Value->Array Value} {t':Nat} (I:Zs X pins σ H s) (hH:H l=some (.lst xs))
  (e:s.heap.get? l=some { cls:=.type "list",data:=.seq its.toArray n }) (hf:f its.toArray=its'.toArray) (hv:Z0 ys its') (hz:ys.length<=sizeLine) :
  Zs X pins σ (Z6 H l (.lst ys)) { s with heap:=s.heap.update l (Obj.mapSeq f),toks:=t' }:=by
 have q:=PySem.IsL.update e f
 rw [hf] at q
 refine I.write (x:=l) (e:=l) (by rw [hH]; exact trivial) (.inl rfl) (fun b' u hb hu=>(Heap.get?_update_other s.heap (Obj.mapSeq f) (Ne.symm hb)).trans hu) ⟨_,q⟩ ?_
 exact ⟨hz,its',_,hv,q⟩
theorem Zs.lnew {its:List Value} {t':Nat} (I:Zs X pins σ H s) (hv:Z0 ys its) (hz:ys.length<=sizeLine) :
  Zs X pins σ (Z6 H s.heap.objs.size (.lst ys)) { s with heap:=s.heap.push { cls:=.type "list",data:=.seq its.toArray },toks:=t' } :=
 I.laid (fun _ _ q=>Heap.get?_push_of_some _ q) (Nat.le_refl _) ⟨hz,its,0,hv,Heap.get?_push_size _ rfl⟩
theorem Zs.fresh (I:Zs X pins σ H s):H s.heap.objs.size=none:=I.hok.fresh (Nat.le_refl _)
theorem Zs.lstM (I:Zs X pins σ H s) (hH:H l=some (.lst xs)):xs.length<=sizeLine/\∃ (its:List Value) (n:Nat),Z0 xs its/\xs.length=its.length/\s.heap.get? l=some { cls:=.type "list",data:=.seq its.toArray n }:=by
 obtain ⟨z,its,n,r,e⟩:=I.hok l _ hH
 exact ⟨z,its,n,r,r.length,e⟩
theorem notLongL {n:Nat} (h:n<=sizeLine):Builtin.List.listTooLong n=false:=by
 unfold Builtin.List.listTooLong
 exact decide_eq_false (by omega)
end
section
variable {X:Cx}
def rAppend:V->List V->Hp->VK->Prop:=fun x vs H Q=>∃ l xs y,x=.ref l/\vs=[y]/\H l=some (.lst xs)/\xs.length<sizeLine/\Q .non (Z6 H l (.lst (xs++[y])))
theorem V0:MtM X "list.append" rAppend:=by
 intro pins s σ H x vs v us Q I rx rv h
 obtain ⟨l,xs,y,rfl,rfl,hH,hz,q⟩:=h
 cases rx
 obtain ⟨u,rfl,ru⟩:=rv.one
 obtain ⟨z,its,n,r,hl,e⟩:=I.lstM hH
 refine call_meets F.slot_list_append ⟨_,e,rfl⟩ F.entry_list_append (F.args_list_append_2 _ _) (PySem.list_append l its.toArray n u (by rw [List.size_toArray]; omega)) ⟨e, ?_⟩
 refine ⟨.non,_,I.lset (its':=its++[u]) hH e (by simp) (r.append (.cons ru .nil)) ?_,rfl,q⟩
 rw [List.length_append,List.length_singleton]
 omega
def rExtend:V->List V->Hp->VK->Prop:=fun x vs H Q=>∃ l b xs zs,x=.ref l/\vs=[.ref b]/\H l=some (.lst xs)/\H b=some (.lst zs)/\xs.length+zs.length<=sizeLine/\Q .non (Z6 H l (.lst (xs++zs)))
theorem mt_extend:MtM X "list.extend" rExtend:=by
 intro pins s σ H x vs v us Q I rx rv h
 obtain ⟨l,b,xs,zs,rfl,rfl,hH,hB,hz,q⟩:=h
 cases rx
 obtain ⟨u,rfl,ru⟩:=rv.one
 cases ru
 obtain ⟨z,its,n,r,hl,e⟩:=I.lstM hH
 obtain ⟨z2,its2,n2,r2,hl2,e2⟩:=I.lstM hB
 have hsz:its.toArray.size+its2.toArray.size<=sizeLine:=by rw [List.size_toArray,List.size_toArray]; omega
 have hlong:¬ (!its.toArray.isEmpty && Builtin.List.listTooLong (its.toArray.size+its2.toArray.size))=true:=by
  rw [notLongL hsz,Bool.and_false]
  exact Bool.false_ne_true
 refine call_meets F.slot_list_extend ⟨_,e,rfl⟩ F.entry_list_extend (F.args_list_extend_2 _ _)
  (AutoSeq1.list_extend_list_list_0 l its.toArray n b its2.toArray n2 hlong (by rw [List.size_toArray]; omega) (by omega)) ⟨e,e2, ?_⟩
 refine ⟨.non,_,I.lset (its':=its++its2) hH e (by simp) (r.append r2) ?_,rfl,q⟩
 rw [List.length_append]
 omega
def rPopAt:V->List V->Hp->VK->Prop:=fun x vs H Q=>∃ l xs i k y,x=.ref l/\vs=[.int i]/\H l=some (.lst xs)/\-(2 ^ 63)<=i/\i<2 ^ 63/\seqIndex? i xs.length=some k/\xs[k]?=some y/\Q y (Z6 H l (.lst (xs.eraseIdx k)))
theorem mt_popAt:MtM X "list.pop" rPopAt:=by
 intro pins s σ H x vs v us Q I rx rv h
 obtain ⟨l,xs,i,k,y,rfl,rfl,hH,h1,h2,hk,hy,q⟩:=h
 cases rx
 obtain ⟨u,rfl,ru⟩:=rv.one
 obtain ⟨t,rfl⟩:=ru
 obtain ⟨z,its,n,r,hl,e⟩:=I.lstM hH
 obtain ⟨w,hw,rw'⟩:=r.get hy
 refine call_meets F.slot_list_pop ⟨_,e,rfl⟩ F.entry_list_pop (F.args_list_pop_2 _ _)
  (MeetsSeq.list_pop_at l its.toArray n i t k w (fitsIndex_both h1 h2) (by rw [List.size_toArray, <-hl]; exact hk) (by rw [<-Array.getElem?_toList]; exact hw) (by rw [List.size_toArray]; omega)) ⟨e, ?_⟩
 refine ⟨y,_,I.lset (its':=its.eraseIdx k) hH e ?_ (r.eraseIdx k) ?_,rw',q⟩
 ·show its.toArray.eraseIdxIfInBounds k=(its.eraseIdx k).toArray
  rw [List.eraseIdxIfInBounds_toArray]
 ·have:=len_erase xs k
  omega
def rCat:R2:=fun x y H Q=>∃ l b xs zs,x=.ref l/\y=.ref b/\H l=some (.lst xs)/\H b=some (.lst zs)/\xs.length+zs.length<=sizeLine/\∀ p,H p=none->Q (.ref p) (Z6 H p (.lst (xs++zs)))
theorem op_cat:OpR X (binaryOp .Add) rCat:=by
 intro pins s σ H x y v u Q I rx ry h
 obtain ⟨l,b,xs,zs,rfl,rfl,hH,hB,hz,q⟩:=h
 cases rx
 cases ry
 obtain ⟨z,its,n,r,hl,e⟩:=I.lstM hH
 obtain ⟨z2,its2,n2,r2,hl2,e2⟩:=I.lstM hB
 refine PySem.P.add_list e e2 ?_ (by rw [List.size_toArray,List.size_toArray]; omega)
 have ea:its.toArray++its2.toArray=(its++its2).toArray:=by simp
 rw [ea]
 exact ⟨.ref _,_,I.lnew (t':=s.toks) (r.append r2) (by rw [List.length_append]; omega),rfl,q _ I.fresh⟩
end
section
variable {prog:Program} {w:World} {A:Around} {E:Value->Shared->Prop} {s:Shared}
end
section
variable {X:Cx}
end
end L2
namespace Att
open PySem PySem.W PySem.Calls PyProof.Rows
theorem ints_of_wellAll {P:Params} {h:Heap}:∀ (ns:List Int) (vs:List Value),WellAll P h vs (ns.map WData.int)->IntsAre vs ns:=by
 intro ns
 induction ns with
 | nil =>
  intro vs w
  rw [List.map_nil] at w
  cases w
  exact .nil
 | cons n ns ih =>
  intro vs w
  rw [List.map_cons] at w
  cases w with
  | cons a b =>
   cases a
   exact .cons _ _ (ih _ b)
theorem script_of {l:OpenLaw} {n:Nat} (hn:l.most=some n) {P:Params} {h:Heap} {args:List WData} {vals:List Value}
  (hpre:l.row.toRowW.claim.pre args=true) (hwl:WellAll P h vals args) :
  ∃ a vs ns,vals=[Value.ref a]/\args=[WData.list (ns.map WData.int)]/\h.get? a=some { cls:=.type "list",data:=.seq vs.toArray }/\IntsAre vs ns/\ns.length<=n:=by
 have hsh:WShape.hasAll [] args [.list .int]=true:=(pre_splitW hpre).1
 have hc:l.pre.holds [] { args:=args }=true:=(pre_splitW hpre).2
 obtain ⟨d,r,rfl,h1,h2⟩:=hasAllW_cons hsh
 obtain rfl:=hasAllW_nil h2
 obtain ⟨xs,rfl,h3⟩:=hasW_list h1
 obtain ⟨ns,rfl⟩:=items_int h3
 have hlen:ns.length<=n:=by
  unfold OpenLaw.pre at hc
  have h4:(WTm.not (.lt (.lit (.int (n:Int))) (.len (.arg 0)))).holds [] { args:=[.list (ns.map .int)] }=true:=by
   have h4:=(holds_andW hc).1
   rw [hn] at h4
   exact h4
  have h5:=condW_of h4 (w_not (w_lt w_lit (w_len_list (w_arg rfl))))
  rw [List.length_map] at h5
  refine Nat.le_of_not_lt fun q=>?_
  have q':(n:Int)<((ns.length:Nat):Int):=by omega
  first
   | (rw [decide_eq_true q'] at h5; exact absurd h5 (by decide))
   | (simp at h5; omega)
 cases hwl with
 | cons w1 w2 =>
  cases w2
  cases w1 with
  | list ho hall=>exact ⟨_,_,ns,rfl,rfl,ho,ints_of_wellAll ns _ hall,hlen⟩
theorem post_true (l:OpenLaw) (args:List WData):l.row.toRowW.claim.post args (.bool true) args=true :=
 postW_of (r:=l.row.toRowW) (X:=(true == true))
  (show WShape.has [] (.bool true) .bool=true by first | rfl | decide | simp [WShape.has,WShape.arms,WShape.armsAll])
  (show (WTm.eq .res (.lit (.bool true))).value [] { args:=args,res:=some (.bool true),after:=args }=some (.bool (true == true)) from w_eq_bool (w_res rfl) w_lit) rfl
theorem attach_call {l:OpenLaw} {n:Nat} {q:Program} {loose:List Str} {XP:(Str->Option Value)->Heap->Prop} {YP:World->Heap->Prop} {d:DefRec}
  (hn:l.most=some n) (hdf:d.params.defaults=[])
  (call:∀ (w:World) (s₀ s₁:Shared) (mg mb:Str->Option Value) (fa:Addr) (o:Obj) (pm cd doc:Value) (a:Addr) (vs:List Value) (ns:List Int),
   Ground q loose [] XP w s₀ mg mb s₁.heap->YP w s₁.heap ->
   s₁.heap.get? fa=some o->o.data=.func (docDef d.name d.params d.body d.scope pm cd doc)->s₁.heap.CodeRec cd d.name->mg d.name=some (.ref fa) ->
   s₁.heap.get? a=some { cls:=.type "list",data:=.seq vs.toArray }->IntsAre vs ns->ns.length<=n->s₁.gens=#[] ->
   codeAny (model l.prog w) callerA (.call (.ref fa) ⟨[.ref a],[]⟩) (fun r s'=>r=.ok (.ret (.bool true))/\OldK s₁.heap s'.heap/\s'.os=s₁.os/\AllBare s'.gens) s₁) :
  WalkO q loose XP YP l.row.toRowW d [] (fun f vs=>PySem.call f vs):=by
 intro w s₀ s₁ mg mb G Y fa o pm cd doc dV kV ho hd hcd hD hmg hg args vals as hpre hlay hrd hwl hlo
 obtain rfl:dV=.none:=Dflts.none hD hdf
 obtain rfl:kV=.none:=Dflts.noKw hD
 obtain ⟨a,vs,ns,rfl,rfl,hobj,hints,hlen⟩:=script_of hn hpre hwl
 refine enter_call (codeAny_mono (call w s₀ s₁ mg mb fa o pm cd doc a vs ns G Y ho (fd_plain hd) hcd hmg hobj hints hlen hg) fun r s' hq=>?_)
 obtain ⟨rfl,h2,h3,h4⟩:=hq
 exact ⟨.inl ⟨.bool true,.bool true,[],rfl,fun _=>rfl,.bool true,post_true l _,fun _=>⟨List.Pairwise.nil,fun _ hm=>(nomatch hm)⟩⟩,h2,h3,h4⟩
section
variable {prog:Program} {w:World} {A:Around} {E:Value->Shared->Prop} {s:Shared} {K:Frag}
end
end Att
namespace L2
open PySem PySem.Spec PyProof.Rows
theorem vals_ints:∀ {vs:List Value} {ns:List Int},IntsAre vs ns->Z0 (ns.map V.int) vs
 | _,_,.nil=>.nil
 | _,_,.cons n t h=>.cons ⟨t,rfl⟩ (vals_ints h)
def Only (H:Hp):Prop:=∀ b,H b=none\/∃ o xs,H b=some (.frz o (.lst xs))
theorem law_call {P:Program} {w:World} {K:W.Frag} {mg mb:Str->Option Value} {CX:CXT} {k:Nat} {fa a:Addr} {fd:FuncData} {x:Str} {sp:Sp} {s₁:Shared} {vs:List Value} {ns:List Int}
  (KX:K.In s₁.heap) (hns:s₁.heap.Ns mainGlobals mg) (hb:s₁.heap.Ns builtinsNs mb) (hbb:∀ x:Str,x ≠ "__name__" -> mb x=bootBuiltins x) (hlim:s₁.heap.NoLimit) (hg:s₁.gens=#[])
  (ha:s₁.heap.get? a=some { cls:=.type "list",data:=.seq vs.toArray }) (hi:IntsAre vs ns) (hl:ns.length<=sizeLine) (hr:Vm k callerA)
  (F:∀ base:Heap,K.In base->base.Ns mainGlobals mg->Yj P w K mg base CX k fa fd [x] sp) (hbind:∀ (s:Shared) (u:Value),BindsTo s fd ⟨[u],[]⟩ [(x,u)])
  (hsp:∀ H:Hp,Only H->Yc K H a (ns.map V.int)->sp [.ref a] H (fun v _=>v=.bl true) fun _ _ _=>False)
  (hCX:∀ H e s',CX [] H s₁ (fun _ _ _=>False) e s'->False) :
  codeAny (model P w) callerA (.call (.ref fa) ⟨[.ref a],[]⟩) (fun r s'=>r=.ok (.ret (.bool true))/\OldK s₁.heap s'.heap/\s'.os=s₁.os/\AllBare s'.gens) s₁:=by
 have rv:=vals_ints hi
 have lenV:=hi.length
 have core:∀ H:Hp,Only H->Yc K H a (ns.map V.int)->HOk P w H s₁.heap->(∀ b,H b≠none->b=a)->(H a≠none->K.lookup a=none) ->
   codeAny (model P w) callerA (.call (.ref fa) ⟨[.ref a],[]⟩) (fun r s'=>r=.ok (.ret (.bool true))/\OldK s₁.heap s'.heap/\s'.os=s₁.os/\AllBare s'.gens) s₁:=by
  intro H hO hS hok hA hK
  have base_of:∀ {b:Addr} {o:Obj},s₁.heap.get? b=some o->H b=none->(hidT s₁.heap H).get? b=some o:=fun e n=>hidT_get e n
  have noA:∀ {b:Addr} {o:Obj} {es:Array DictEntry} {ep:Nat},s₁.heap.get? b=some o->o.data=.dict es ep->H b=none:=fun {b o es ep} e d=>by
   cases q:H b with
   | none=>rfl
   | some u =>
    have e':b=a:=hA b (by rw [q]; simp)
    subst e'
    rw [ha] at e; cases e
    have d':Data.seq vs.toArray _=Data.dict es ep:=d
    cases d'
  have nsK:∀ {b:Addr} {m:Str->Option Value},s₁.heap.Ns b m->(hidT s₁.heap H).Ns b m:=fun {b m} ⟨o,es,ep,e,d,r⟩=>⟨o,es,ep,base_of e (noA e d),d,r⟩
  have hKb:K.In (hidT s₁.heap H):=fun b o e=>base_of (KX b o e) (by
   cases q:H b with
   | none=>rfl
   | some u =>
    have e':b=a:=hA b (by rw [q]; simp)
    subst e'
    rw [hK (by rw [q]; simp)] at e; cases e)
  have hM:Mod K mg (hidT s₁.heap H):=⟨hKb,nsK hns,⟨mb,nsK hb,hbb⟩,let ⟨mc,h1,h2⟩:=hlim; ⟨mc,nsK h1,h2⟩⟩
  have e0:Env0 P w K mg (hidT s₁.heap H) callerA [] s₁ H:=⟨rfl,hM,fun b o e=>of_hidT e,Nat.le_of_eq (hidT_size _ _),trivial,fun b hb=>absurd (show b∈([]:List Addr) from hb) (by simp),hok,.of_eq hg⟩
  refine codeAny_mono ((F _ hKb (nsK hns)).run callerA [] s₁ H ⟨[.ref a],[]⟩ [.ref a] [.ref a] _ _ hr e0 (hbind s₁ (.ref a)) (.cons rfl .nil) (hsp H hO hS)) fun r s' h=>?_
  cases r with
  | error e=>exact (hCX H e s' h).elim
  | ok fl =>
   cases fl with
   | next=>exact False.elim h
   | brk=>exact False.elim h
   | cont=>exact False.elim h
   | ret u =>
    obtain ⟨v,H',os,bare,un,hok',r',q⟩:=h
    have q':v=.bl true:=q
    subst q'
    obtain rfl:u=Value.bool true:=r'
    refine ⟨rfl,OldK.of_keep fun b o e=>?_,os,bare⟩
    cases q:H b with
    | none=>exact un.keep b o e q (by intro z; exact absurd (show b∈([]:List Addr) from z) (by simp)) (by simp)
    | some u =>
     rcases hO b with z | ⟨ob,xs,z⟩
     ·rw [q] at z; cases z
     ·have z2:=un.frzs b ob _ z
      obtain ⟨e1,_⟩:=hok b _ z
      obtain ⟨e2,_⟩:=hok' b _ z2
      rw [e] at e1; cases e1
      exact e2
 cases hk:K.lookup a with
 | some o =>
  have e:=KX a o hk
  rw [ha] at e
  cases e
  refine core (fun _=>none) (fun _=>.inl rfl) (.inr ⟨_,vs.toArray,_,hk,rfl,rfl,rfl,by rw [List.size_toArray,lenV]; exact hl,by simpa using rv⟩) (fun b u z=>by have z':(none:Option HO)=some u:=z; cases z') (fun b z=>absurd rfl z) fun z=>absurd rfl z
 | none =>
  refine core (fun b=>if b=a then some (.frz { cls:=.type "list",data:=.seq vs.toArray } (.lst (ns.map V.int))) else none) (fun b=>?_) (.inl (.inr ⟨{ cls:=.type "list",data:=.seq vs.toArray },if_pos rfl⟩)) (fun b u z=>?_) (fun b z=>?_) fun _=>hk
  ·by_cases hb:b=a
   ·exact .inr ⟨_,_,if_pos hb⟩
   ·exact .inl (if_neg hb)
  ·by_cases hb:b=a
   ·have z':=(if_pos hb).symm.trans z
    cases z'
    subst hb
    exact ⟨ha,by rw [List.length_map]; exact hl,vs,_,rv,ha⟩
   ·have z':=(if_neg hb).symm.trans z
    cases z'
  ·by_cases hb:b=a
   ·exact hb
   ·exact absurd (if_neg hb) z
theorem walk_of {l:W.OpenLaw} {n k:Nat} {q:Program} {loose:List Str} {XP:(Str->Option Value)->Heap->Prop} {YP:World->Heap->Prop} {d:DefRec} {K:Params->W.Frag} {CX:World->CXT} {sp:World->Sp} {x:Str}
  (hn:l.most=some n) (hn2:n<=sizeLine) (hdf:d.params.defaults=[]) (hr:Vm k callerA)
  (hY:∀ (w:World) (h:Heap),YP w h->(K w.params).In h)
  (F:∀ (w:World) (mg:Str->Option Value) (fa:Addr) (h:Heap),(K w.params).In h->h.Ns mainGlobals mg->mg d.name=some (.ref fa) ->
   ∃ fd:FuncData,(∀ (s:Shared) (u:Value),BindsTo s fd ⟨[u],[]⟩ [(x,u)]) /\
    ∀ base:Heap,(K w.params).In base->base.Ns mainGlobals mg->Yj l.prog w (K w.params) mg base (CX w) k fa fd [x] (sp w))
  (hsp:∀ (w:World) (H:Hp) (a:Addr) (ns:List Int),ns.length<=n->Only H->Yc (K w.params) H a (ns.map V.int)->sp w [.ref a] H (fun v _=>v=.bl true) fun _ _ _=>False)
  (hCX:∀ (w:World) (H:Hp) (s:Shared) (e:Value) (s':Shared),CX w [] H s (fun _ _ _=>False) e s'->False) :
  W.WalkO q loose XP YP l.row.toRowW d [] (fun f vs=>PySem.call f vs):=by
 refine Att.attach_call hn hdf fun w s₀ s₁ mg mb fa o pm cd doc a vs ns G Y ho hd hcd hmg hobj hints hlen hg=>?_
 have KX:=hY w _ Y
 obtain ⟨fd,hb,hF⟩:=F w mg fa _ KX G.T.g hmg
 exact law_call KX G.T.g G.T.b G.T.builtins G.T.nolimit hg hobj hints (Nat.le_trans hlen hn2) hr hF hb (fun H hO hS=>hsp w H a ns hlen hO hS) fun H e s'=>hCX w H s₁ e s'
abbrev CX0:CXT:=fun _ _ _ _ _ _=>False
abbrev E0:XK:=fun _ _ _=>False
theorem pass0 {X:Cx}:Passes CX0 X E0:=fun _ _ _ _ _ _ _ h=>h.elim
structure Uf (K:W.Frag) (x qual:Str) (st:Stmt) (f:Addr) (fd:FuncData):Prop where
 ex:∃ (oc:Value) (od:Option Addr) (kV doc pm:Value) (an:Option Addr) (cdv ct:Value) (osl:Array (Option Value)),
  fd=W.fnOf x qual (defArgs st) (defBody st) (Zb st) .none kV doc pm an cdv ct/\K.lookup f=some ⟨oc,od,.func fd,osl⟩/\W.codeIn K cdv qual=true
 kp:W.keepIn K (.ref f)=true
section
variable {P:Program} {w:World} {K:W.Frag} {mg:Str->Option Value} {base:Heap}
theorem Uf.ok {x qual:Str} {st:Stmt} {f:Addr} {fd:FuncData} {N ps:List Str} {k:Nat} {sp:Sp} (F:Uf K x qual st f fd) (S:Zr N ps (Zb st)) (len:∀ vs H Q E,sp vs H Q E->vs.length=ps.length)
  (hbody:∀ (cdv:Value) (A:Around) (outer:List Env) (s:Shared) (H:Hp) (vs:List V) (Q:VK) (E:XK),Vm k (A.deeper (envOfC qual (Zb st) s.heap.objs.size f cdv))->sp vs H Q E ->
   ∃ t,PSs (cxOf CX0 P w K mg base N qual (Zb st) f cdv A outer s H E).nox (defBody st) t/\t { nx:=fun _ H'=>Q .non H',rt:=Q } (start N vs) H):Yj P w K mg base CX0 (k+1) f fd ps sp:=by
 obtain ⟨oc,od,kV,doc,pm,an,cdv,ct,osl,rfl,lk,hcd⟩:=F.ex
 refine fn_of lk hcd S len fun A outer s H vs Q E hr hsp=>?_
 obtain ⟨t,h,q⟩:=hbody cdv A outer s H vs Q E hr hsp
 exact ⟨t,h.nox,q⟩
theorem Uf.binds {x qual:Str} {st:Stmt} {f:Addr} {fd:FuncData} {ps:List Str} (F:Uf K x qual st f fd)
  (h:∀ (kV doc pm:Value) (an:Option Addr) (cdv ct:Value) (us:List Value),us.length=ps.length->bindArgs (W.fnOf x qual (defArgs st) (defBody st) (Zb st) .none kV doc pm an cdv ct) ⟨us,[]⟩=pure (ps.zip us)):Vc K fd ps []:=by
 obtain ⟨oc,od,kV,doc,pm,an,cdv,ct,osl,rfl,lk,hcd⟩:=F.ex
 exact .all (h kV doc pm an cdv ct)
theorem Z3 {x qual:Str} {st:Stmt} {f:Addr} {oc:Value} {od an:Option Addr} {osl:Array (Option Value)} {kV doc pm cdv ct:Value} (l:K.lookup f=some ⟨oc,od,.func (W.fnOf x qual (defArgs st) (defBody st) (Zb st) .none kV doc pm an cdv ct),osl⟩)
  (c:W.codeIn K cdv qual=true) (k:W.keepIn K (.ref f)=true):Uf K x qual st f (W.fnOf x qual (defArgs st) (defBody st) (Zb st) .none kV doc pm an cdv ct):=⟨⟨oc,od,kV,doc,pm,an,cdv,ct,osl,rfl,l,c⟩,k⟩
end
theorem Vz {n:Nat} (h:n<=1000):n<sizeLine:=Nat.lt_of_le_of_lt h (by decide)
theorem sz (n:Nat) (h:n<=sizeLine:=by decide):n<=sizeLine:=h
theorem Vm.m {j k:Nat} {A:Around} (r:Vm k A) (h:j<=k:=by omega):Vm j A:=r.mono h
section
variable {X:Cx}
theorem pv (i:Nat) {x:Str} {pos:Pos} (hN:X.N[i]?=some x:=by rfl) (hv:Vis X.env.scope x:=by first | exact Or.inl rfl | exact Or.inr (Or.inl rfl) | exact Or.inr (Or.inr rfl)) (hd:(x == ("__debug__" : Str))=false:=by decide)
  (hcd:(x == ("__classdict__" : Str))=false:=by decide):PE X (.Name x pos) (tVar i):=pe_var hN hv hd hcd
end
theorem iteF {A B:Prop} (h:B):if false=true then A else B:=by
 rw [if_neg Bool.false_ne_true]
 exact h
theorem iteT {A B:Prop} (h:A):if true=true then A else B:=by
 rw [if_pos rfl]
 exact h
theorem ite2 {c A B:Prop} [Decidable c] (h1:c->A) (h2:¬ c->B):if c then A else B:=by
 by_cases h:c
 ·rw [if_pos h]
  exact h1 h
 ·rw [if_neg h]
  exact h2 h
def Zt (H H':Hp):Prop:=∀ b o,H b=some o->H' b=some o
theorem Zt.refl (H:Hp):Zt H H:=fun _ _ h=>h
theorem Zt.trans {H H1 H2:Hp} (a:Zt H H1) (b:Zt H1 H2):Zt H H2:=fun c o h=>b c o (a c o h)
theorem Zt.free {H H':Hp} (e:Zt H H') {l:Addr} (h:H' l=Option.none):H l=Option.none:=by
 cases q:H l with
 | none=>rfl
 | some o =>
  rw [e l o q] at h
  cases h
theorem Zt.seq {K:W.Frag} {H H':Hp} {a:Addr} {xs:List V} (e:Zt H H') (h:Yc K H a xs):Yc K H' a xs:=by
 rcases h with (h | ⟨o,h⟩) | h
 ·exact .inl (.inl (e _ _ h))
 ·exact .inl (.inr ⟨o,e _ _ h⟩)
 ·exact .inr h
inductive D where
 | non | bl (b:Bool) | int (i:Int) | str (x:Str) | tup (xs:List D) | lst (xs:List D)
mutual
def Y1 (K:W.Frag) (H:Hp):D->V->Prop
 | .non,v=>v=.non
 | .bl b,v=>v=.bl b
 | .int i,v=>v=.int i
 | .str x,v=>v=.str x
 | .tup ds,v=>∃ a vs,v=.ref a/\Yg K H a vs/\Zi K H ds vs
 | .lst ds,v=>∃ a vs,v=.ref a/\Yc K H a vs/\Zi K H ds vs
def Zi (K:W.Frag) (H:Hp):List D->List V->Prop
 | [],vs=>vs=[]
 | d::ds,vs=>∃ v r,vs=v::r/\Y1 K H d v/\Zi K H ds r
end
mutual
def eqD:D->D->Bool
 | .non,.non=>true
 | .bl a,.bl b=>a == b
 | .bl a,.int b=>(if a then 1 else 0) == b
 | .int a,.bl b=>a == (if b then 1 else 0)
 | .int a,.int b=>a == b
 | .str a,.str b=>a == b
 | .tup xs,.tup ys=>eqDs xs ys
 | .lst xs,.lst ys=>eqDs xs ys
 | _,_=>false
def eqDs:List D->List D->Bool
 | [],[]=>true
 | x::xs,y::ys=>eqD x y && eqDs xs ys
 | _,_=>false
end
mutual
def dpD:D->Nat
 | .tup xs=>dpDs xs+1
 | .lst xs=>dpDs xs+1
 | _=>0
def dpDs:List D->Nat
 | []=>0
 | d::ds=>max (dpD d) (dpDs ds)
end
mutual
theorem eqD_refl:∀ d:D,eqD d d=true
 | .non=>rfl
 | .bl b=>by simp [eqD]
 | .int b=>by simp [eqD]
 | .str b=>by simp [eqD]
 | .tup xs=>by simp only [eqD]; exact eqDs_refl xs
 | .lst xs=>by simp only [eqD]; exact eqDs_refl xs
theorem eqDs_refl:∀ d:List D,eqDs d d=true
 | []=>rfl
 | x::xs=>by simp only [eqDs,eqD_refl x,eqDs_refl xs,Bool.and_self]
end
theorem Zi.length {K:W.Frag} {H:Hp}:∀ {ds:List D} {vs:List V},Zi K H ds vs->ds.length=vs.length
 | [],vs,h=>by
  have e:vs=[]:=h
  subst e
  rfl
 | d::ds,vs,h=>by
  obtain ⟨v,r,e,_,h2⟩:=(show ∃ v r,vs=v::r/\Y1 K H d v/\Zi K H ds r from h)
  rw [e,List.length_cons,List.length_cons,Zi.length h2]
theorem Zi.get {K:W.Frag} {H:Hp}:∀ {ds:List D} {vs:List V} {i:Nat} {d:D},Zi K H ds vs->ds[i]?=some d->∃ v,vs[i]?=some v/\Y1 K H d v
 | [],vs,i,d,_,e=>by simp at e
 | d::ds,vs,0,d',h,e=>by
  obtain ⟨v,r,rfl,h1,_⟩:=(show ∃ v r,vs=v::r/\Y1 K H d v/\Zi K H ds r from h)
  simp at e; subst e
  exact ⟨v,rfl,h1⟩
 | d::ds,vs,i+1,d',h,e=>by
  obtain ⟨v,r,rfl,_,h2⟩:=(show ∃ v r,vs=v::r/\Y1 K H d v/\Zi K H ds r from h)
  obtain ⟨v',e1,h3⟩:=Zi.get (i:=i) h2 (by simpa using e)
  exact ⟨v',by simpa using e1,h3⟩
theorem dpDs_mem:∀ {ds:List D} {d:D},d∈ds->dpD d<=dpDs ds
 | d::ds,d',h=>by
  simp only [dpDs]
  rcases List.mem_cons.mp h with e | h
  ·subst e; omega
  ·have:=dpDs_mem h; omega
theorem Ux:∀ ds es:List D,((List.range (min ds.length es.length)).all (fun j=>eqD (ds.getD j .non) (es.getD j .non)) && ds.length == es.length)=eqDs ds es
 | [],[]=>rfl
 | [],e::es=>by simp [eqDs]
 | d::ds,[]=>by simp [eqDs]
 | d::ds,e::es=>by
  have ih:=Ux ds es
  have e1:min (d::ds).length (e::es).length=min ds.length es.length+1:=by simp only [List.length_cons]; omega
  rw [e1,List.range_succ_eq_map]
  simp only [List.all_cons,List.all_map,eqDs, <-ih,List.length_cons,List.getD_cons_zero]
  have e2:((ds.length+1 == es.length+1):Bool)=(ds.length == es.length):=by
   rw [Bool.eq_iff_iff]; simp
  rw [e2,Bool.and_assoc]
  rfl
section
variable {X:Cx} {pins:List (Addr × Obj)} {σ:St} {H:Hp} {s:Shared}
theorem Zs.not_both (I:Zs X pins σ H s) {a:Addr} {xs ys:List V} (h:Yc X.K H a xs) (h':Yg X.K H a ys):False:=by
 obtain ⟨its,r,⟨o,n,e,c,_⟩,_⟩:=I.list h
 obtain ⟨its',r',⟨o',e',c',_⟩,_⟩:=I.tuple h'
 rw [e] at e'; cases e'
 rw [c] at c'
 injection c' with c''
 exact absurd c'' (by decide)
mutual
theorem Y1.inj (I:Zs X pins σ H s):∀ (d e:D) (v:V),Y1 X.K H d v->Y1 X.K H e v->d=e
 | .non,e,v,h,h'=>by
  have q:v=.non:=h
  subst q
  cases e with
  | non=>rfl
  | tup _=>obtain ⟨_,_,z,_⟩:=h'; cases z
  | lst _=>obtain ⟨_,_,z,_⟩:=h'; cases z
  | _=>cases (show V.non=_ from h')
 | .bl b,e,v,h,h'=>by
  have q:v=.bl b:=h
  subst q
  cases e with
  | bl c=>cases (show V.bl b=V.bl c from h'); rfl
  | tup _=>obtain ⟨_,_,z,_⟩:=h'; cases z
  | lst _=>obtain ⟨_,_,z,_⟩:=h'; cases z
  | _=>cases (show V.bl b=_ from h')
 | .int b,e,v,h,h'=>by
  have q:v=.int b:=h
  subst q
  cases e with
  | int c=>cases (show V.int b=V.int c from h'); rfl
  | tup _=>obtain ⟨_,_,z,_⟩:=h'; cases z
  | lst _=>obtain ⟨_,_,z,_⟩:=h'; cases z
  | _=>cases (show V.int b=_ from h')
 | .str b,e,v,h,h'=>by
  have q:v=.str b:=h
  subst q
  cases e with
  | str c=>cases (show V.str b=V.str c from h'); rfl
  | tup _=>obtain ⟨_,_,z,_⟩:=h'; cases z
  | lst _=>obtain ⟨_,_,z,_⟩:=h'; cases z
  | _=>cases (show V.str b=_ from h')
 | .tup ds,e,v,h,h'=>by
  obtain ⟨a,vs,rfl,q,ar⟩:=(show ∃ a vs,v=.ref a/\Yg X.K H a vs/\Zi X.K H ds vs from h)
  cases e with
  | tup es =>
   obtain ⟨a',ws,z,q',ar'⟩:=(show ∃ a' vs,V.ref a=.ref a'/\Yg X.K H a' vs/\Zi X.K H es vs from h')
   cases z
   have e:=I.tuple_inj q q'
   subst e
   rw [Zi.inj I ds es vs ar ar']
  | lst es =>
   obtain ⟨a',ws,z,q',ar'⟩:=(show ∃ a' vs,V.ref a=.ref a'/\Yc X.K H a' vs/\Zi X.K H es vs from h')
   cases z
   exact (I.not_both q' q).elim
  | non=>cases (show V.ref a=_ from h')
  | bl _=>cases (show V.ref a=_ from h')
  | int _=>cases (show V.ref a=_ from h')
  | str _=>cases (show V.ref a=_ from h')
 | .lst ds,e,v,h,h'=>by
  obtain ⟨a,vs,rfl,q,ar⟩:=(show ∃ a vs,v=.ref a/\Yc X.K H a vs/\Zi X.K H ds vs from h)
  cases e with
  | lst es =>
   obtain ⟨a',ws,z,q',ar'⟩:=(show ∃ a' vs,V.ref a=.ref a'/\Yc X.K H a' vs/\Zi X.K H es vs from h')
   cases z
   have e:=I.list_inj q q'
   subst e
   rw [Zi.inj I ds es vs ar ar']
  | tup es =>
   obtain ⟨a',ws,z,q',ar'⟩:=(show ∃ a' vs,V.ref a=.ref a'/\Yg X.K H a' vs/\Zi X.K H es vs from h')
   cases z
   exact (I.not_both q q').elim
  | non=>cases (show V.ref a=_ from h')
  | bl _=>cases (show V.ref a=_ from h')
  | int _=>cases (show V.ref a=_ from h')
  | str _=>cases (show V.ref a=_ from h')
theorem Zi.inj (I:Zs X pins σ H s):∀ (ds es:List D) (vs:List V),Zi X.K H ds vs->Zi X.K H es vs->ds=es
 | [],es,vs,h,h'=>by
  have q:vs=[]:=h
  subst q
  cases es with
  | nil=>rfl
  | cons e es=>obtain ⟨_,_,z,_⟩:=h'; cases z
 | d::ds,es,vs,h,h'=>by
  obtain ⟨v,r,rfl,h1,h2⟩:=(show ∃ v r,vs=v::r/\Y1 X.K H d v/\Zi X.K H ds r from h)
  cases es with
  | nil=>cases (show v::r=[] from h')
  | cons e es =>
   obtain ⟨v',r',z,h1',h2'⟩:=(show ∃ v' r',v::r=v'::r'/\Y1 X.K H e v'/\Zi X.K H es r' from h')
   cases z
   rw [Y1.inj I d e v h1 h1',Zi.inj I ds es r h2 h2']
end
def flD:D->Option V
 | .non=>some .non
 | .bl b=>some (.bl b)
 | .int i=>some (.int i)
 | .str x=>some (.str x)
 | _=>none
theorem Y1.flat {K:W.Frag} {d:D} {x v:V} (e:flD d=some x) (h:Y1 K H d v):v=x/\flatV x=true:=by
 cases d with
 | non=>cases e; exact ⟨h,rfl⟩
 | bl b=>cases e; exact ⟨h,rfl⟩
 | int i=>cases e; exact ⟨h,rfl⟩
 | str q=>cases e; exact ⟨h,rfl⟩
 | tup q=>cases e
 | lst q=>cases e
theorem flD_cases {d:D} {x:V} (h:flD d=some x):(d=.non/\x=.non)\/(∃ b,d=.bl b/\x=.bl b)\/(∃ i,d=.int i/\x=.int i)\/∃ q,d=.str q/\x=.str q:=by
 cases d with
 | non=>cases h; exact .inl ⟨rfl,rfl⟩
 | bl b=>cases h; exact .inr (.inl ⟨b,rfl,rfl⟩)
 | int i=>cases h; exact .inr (.inr (.inl ⟨i,rfl,rfl⟩))
 | str q=>cases h; exact .inr (.inr (.inr ⟨q,rfl,rfl⟩))
 | tup q=>cases h
 | lst q=>cases h
theorem eqD_flat {d e:D} {x y:V} (h:flD d=some x) (h':flD e=some y):eqD d e=eqV x y:=by
 rcases flD_cases h with ⟨rfl,rfl⟩ | ⟨_,rfl,rfl⟩ | ⟨_,rfl,rfl⟩ | ⟨_,rfl,rfl⟩ <;> rcases flD_cases h' with ⟨rfl,rfl⟩ | ⟨_,rfl,rfl⟩ | ⟨_,rfl,rfl⟩ | ⟨_,rfl,rfl⟩ <;> rfl
theorem Y4 {xs:List V} {us:List Value} (r:Z0 xs us) {j:Nat} (h:j<us.length) {x:V} (e:xs[j]?=some x):Yq x us[j]:=by
 obtain ⟨u,e1,q⟩:=r.get e
 rw [List.getElem?_eq_getElem h] at e1
 cases e1
 exact q
theorem eqAt_fT {es:List D} {a:Addr} {x:V} {u:Value} {A:Around} {its:Array Value} {d:D} (h:flD d=some x) (rx:Yq x u) (ht:IsTup s.heap a its) (hu2:A.units<cLine):SeqAt.EqAt A s u (.ref a) (eqD d (.tup es)):=by
 rcases flD_cases h with ⟨rfl,rfl⟩ | ⟨b,rfl,rfl⟩ | ⟨b,rfl,rfl⟩ | ⟨b,rfl,rfl⟩
 ·cases rx; exact SeqAt.EqAt.none_tuple ht hu2
 ·cases rx; exact SeqAt.EqAt.bool_tuple b ht hu2
 ·obtain ⟨t,rfl⟩:=rx; exact SeqAt.EqAt.int_tuple b t ht hu2
 ·obtain ⟨t,rfl⟩:=rx; exact SeqAt.EqAt.str_tuple b t ht hu2
theorem eqAt_fL {es:List D} {a:Addr} {x:V} {u:Value} {A:Around} {its:Array Value} {d:D} (h:flD d=some x) (rx:Yq x u) (ht:s.heap.IsList a its) (hu2:A.units<cLine):SeqAt.EqAt A s u (.ref a) (eqD d (.lst es)):=by
 rcases flD_cases h with ⟨rfl,rfl⟩ | ⟨b,rfl,rfl⟩ | ⟨b,rfl,rfl⟩ | ⟨b,rfl,rfl⟩
 ·cases rx; exact SeqAt.EqAt.none_list ht hu2
 ·cases rx; exact SeqAt.EqAt.bool_list b ht hu2
 ·obtain ⟨t,rfl⟩:=rx; exact SeqAt.EqAt.int_list b t ht hu2
 ·obtain ⟨t,rfl⟩:=rx; exact SeqAt.EqAt.str_list b t ht hu2
theorem eqAt_Tf {es:List D} {a:Addr} {x:V} {u:Value} {A:Around} {its:Array Value} {d:D} (h:flD d=some x) (rx:Yq x u) (ht:IsTup s.heap a its) (hu2:A.units<cLine):SeqAt.EqAt A s (.ref a) u (eqD (.tup es) d):=by
 rcases flD_cases h with ⟨rfl,rfl⟩ | ⟨b,rfl,rfl⟩ | ⟨b,rfl,rfl⟩ | ⟨b,rfl,rfl⟩
 ·cases rx; exact SeqAt.EqAt.tuple_none ht hu2
 ·cases rx; exact SeqAt.EqAt.tuple_bool b ht hu2
 ·obtain ⟨t,rfl⟩:=rx; exact SeqAt.EqAt.tuple_int b t ht hu2
 ·obtain ⟨t,rfl⟩:=rx; exact SeqAt.EqAt.tuple_str b t ht hu2
theorem eqAt_Lf {es:List D} {a:Addr} {x:V} {u:Value} {A:Around} {its:Array Value} {d:D} (h:flD d=some x) (rx:Yq x u) (ht:s.heap.IsList a its) (hu2:A.units<cLine):SeqAt.EqAt A s (.ref a) u (eqD (.lst es) d):=by
 rcases flD_cases h with ⟨rfl,rfl⟩ | ⟨b,rfl,rfl⟩ | ⟨b,rfl,rfl⟩ | ⟨b,rfl,rfl⟩
 ·cases rx; exact SeqAt.EqAt.list_none ht hu2
 ·cases rx; exact SeqAt.EqAt.list_bool b ht hu2
 ·obtain ⟨t,rfl⟩:=rx; exact SeqAt.EqAt.list_int b t ht hu2
 ·obtain ⟨t,rfl⟩:=rx; exact SeqAt.EqAt.list_str b t ht hu2
theorem flD_none {d:D} (h:flD d=none):(∃ ds,d=.tup ds)\/∃ ds,d=.lst ds:=by
 cases d with
 | non=>cases h
 | bl b=>cases h
 | int i=>cases h
 | str q=>cases h
 | tup q=>exact .inl ⟨q,rfl⟩
 | lst q=>exact .inr ⟨q,rfl⟩
def EqIn (A:Around) (s:Shared) (K:W.Frag) (H:Hp) (ds:List D):Prop:=∀ d∈ds,∀ (e:D) (x y:V) (u v:Value),Y1 K H d x->Y1 K H e y->Yq x u->Yq y v->SeqAt.EqAt A s u v (eqD d e)
theorem EqIn.at {A:Around} {K:W.Frag} {ds es:List D} {vs vs':List V} {its its':List Value} (E:EqIn A s K H ds) (ar:Zi K H ds vs) (ar':Zi K H es vs') (r:Z0 vs its) (r':Z0 vs' its') {j:Nat} (h1:j<its.toArray.size) (h2:j<its'.toArray.size) (j1:j<ds.length) (j2:j<es.length) :
  SeqAt.EqAt A s its.toArray[j] its'.toArray[j] (eqD (ds.getD j .non) (es.getD j .non)):=by
 obtain ⟨x1,g1,i1⟩:=ar.get (List.getElem?_eq_getElem j1)
 obtain ⟨y1,g2,i2⟩:=ar'.get (List.getElem?_eq_getElem j2)
 have d1:ds.getD j .non=ds[j]:=by simp [j1]
 have d2:es.getD j .non=es[j]:=by simp [j2]
 rw [d1,d2]
 exact E _ (List.getElem_mem j1) _ x1 y1 _ _ i1 i2 (Y4 r (by simpa using h1) g1) (Y4 r' (by simpa using h2) g2)
theorem eqAt_TT (I:Zs X pins σ H s) {ds es:List D} {a a':Addr} {vs vs':List V} {A:Around} (q:Yg X.K H a vs) (ar:Zi X.K H ds vs) (q':Yg X.K H a' vs') (ar':Zi X.K H es vs') (hne:a≠a') (E:EqIn A.in1 s X.K H ds) (hu2:A.units<cLine) :
  SeqAt.EqAt A s (.ref a) (.ref a') (eqD (.tup ds) (.tup es)):=by
 obtain ⟨its,r,ht,_⟩:=I.tuple q
 obtain ⟨its',r',ht',_⟩:=I.tuple q'
 have l1:its.toArray.size=ds.length:=by rw [List.size_toArray, <-r.length, <-ar.length]
 have l2:its'.toArray.size=es.length:=by rw [List.size_toArray, <-r'.length, <-ar'.length]
 have main:=SeqAt.RcAt.tuples (A:=A) (e:=fun j=>eqD (ds.getD j .non) (es.getD j .non)) ht ht' hu2 (fun j h1 h2=>E.at ar ar' r r' h1 h2 (by omega) (by omega))
 rw [l1,l2,Ux] at main
 exact SeqAt.EqAt.of_refs hne main
theorem eqAt_LL (I:Zs X pins σ H s) {ds es:List D} {a a':Addr} {vs vs':List V} {A:Around} (q:Yc X.K H a vs) (ar:Zi X.K H ds vs) (q':Yc X.K H a' vs') (ar':Zi X.K H es vs') (hne:a≠a') (E:EqIn A.in1 s X.K H ds) (hu2:A.units<cLine) :
  SeqAt.EqAt A s (.ref a) (.ref a') (eqD (.lst ds) (.lst es)):=by
 obtain ⟨its,r,hp,_⟩:=I.list q
 obtain ⟨its',r',hp',_⟩:=I.list q'
 have l1:its.toArray.size=ds.length:=by rw [List.size_toArray, <-r.length, <-ar.length]
 have l2:its'.toArray.size=es.length:=by rw [List.size_toArray, <-r'.length, <-ar'.length]
 by_cases hl:ds.length=es.length
 ·have main:=SeqAt.RcAt.lists (A:=A) (e:=fun j=>eqD (ds.getD j .non) (es.getD j .non)) hp.isList hp'.isList (by omega) hu2 (fun j h1 h2=>E.at ar ar' r r' h1 h2 (by omega) (by omega))
  have al:=Ux ds es
  rw [<-hl,Nat.min_self,beq_self_eq_true,Bool.and_true] at al
  rw [l1,al] at main
  exact SeqAt.EqAt.of_refs hne main
 ·have main:=SeqAt.RcAt.lists_lengths (A:=A) hp.isList hp'.isList (by rw [l1,l2]; simpa using hl) hu2
  have al:=Ux ds es
  have hf:(ds.length == es.length)=false:=by simpa using hl
  rw [hf,Bool.and_false] at al
  have z:eqD (D.lst ds) (D.lst es)=eqDs ds es:=by simp only [eqD]
  rw [z, <-al]
  exact SeqAt.EqAt.of_refs hne main
theorem eqAt_refs (I:Zs X pins σ H s) {d e:D} {x y:V} {u v:Value} {A:Around} (hfd:flD d=none) (hfe:flD e=none) (hd:Y1 X.K H d x) (he:Y1 X.K H e y) (rx:Yq x u) (ry:Yq y v) (E:∀ ds,d=.tup ds\/d=.lst ds->EqIn A.in1 s X.K H ds) (hu2:A.units<cLine) :
  SeqAt.EqAt A s u v (eqD d e):=by
 by_cases hxy:x=y
 ·subst hxy
  have ee:=Y1.inj I d e x hd he
  subst ee
  rw [eqD_refl]
  have uv:u=v:=by
   rcases flD_none hfd with ⟨ds,rfl⟩ | ⟨ds,rfl⟩
   ·obtain ⟨a,_,rfl,_⟩:=hd; cases rx; cases ry; rfl
   ·obtain ⟨a,_,rfl,_⟩:=hd; cases rx; cases ry; rfl
  subst uv
  exact SeqAt.EqAt.same _
 ·rcases flD_none hfd with ⟨ds,rfl⟩ | ⟨ds,rfl⟩
  ·obtain ⟨a,vs,rfl,q,ar⟩:=hd
   cases rx
   rcases flD_none hfe with ⟨es,rfl⟩ | ⟨es,rfl⟩
   ·obtain ⟨a',vs',rfl,q',ar'⟩:=he
    cases ry
    exact eqAt_TT I q ar q' ar' (fun z=>hxy (by rw [z])) (E ds (.inl rfl)) hu2
   ·obtain ⟨a',vs',rfl,q',ar'⟩:=he
    cases ry
    obtain ⟨_,_,ht,_⟩:=I.tuple q
    obtain ⟨_,_,hp',_⟩:=I.list q'
    exact SeqAt.EqAt.tuple_list ht hp'.isList hu2
  ·obtain ⟨a,vs,rfl,q,ar⟩:=hd
   cases rx
   rcases flD_none hfe with ⟨es,rfl⟩ | ⟨es,rfl⟩
   ·obtain ⟨a',vs',rfl,q',ar'⟩:=he
    cases ry
    obtain ⟨_,_,hp,_⟩:=I.list q
    obtain ⟨_,_,ht',_⟩:=I.tuple q'
    exact SeqAt.EqAt.list_tuple hp.isList ht' hu2
   ·obtain ⟨a',vs',rfl,q',ar'⟩:=he
    cases ry
    exact eqAt_LL I q ar q' ar' (fun z=>hxy (by rw [z])) (E ds (.inr rfl)) hu2
theorem eqAt_step (I:Zs X pins σ H s) {d e:D} {x y:V} {u v:Value} {A:Around} (hd:Y1 X.K H d x) (he:Y1 X.K H e y) (rx:Yq x u) (ry:Yq y v) (E:∀ ds,d=.tup ds\/d=.lst ds->EqIn A.in1 s X.K H ds) (hu2:A.units<cLine) :
  SeqAt.EqAt A s u v (eqD d e):=by
 cases hfd:flD d with
 | some x' =>
  obtain ⟨rfl,fx⟩:=Y1.flat hfd hd
  cases hfe:flD e with
  | some y' =>
   obtain ⟨rfl,fy⟩:=Y1.flat hfe he
   rw [eqD_flat hfd hfe]
   exact eqAt_V rx ry fx fy
  | none =>
   rcases flD_none hfe with ⟨es,rfl⟩ | ⟨es,rfl⟩
   ·obtain ⟨a,vs,rfl,q,_⟩:=he
    cases ry
    obtain ⟨its,_,ht,_⟩:=I.tuple q
    exact eqAt_fT hfd rx ht hu2
   ·obtain ⟨a,vs,rfl,q,_⟩:=he
    cases ry
    obtain ⟨its,_,hp,_⟩:=I.list q
    exact eqAt_fL hfd rx hp.isList hu2
 | none =>
  cases hfe:flD e with
  | some y' =>
   obtain ⟨rfl,fy⟩:=Y1.flat hfe he
   rcases flD_none hfd with ⟨es,rfl⟩ | ⟨es,rfl⟩
   ·obtain ⟨a,vs,rfl,q,_⟩:=hd
    cases rx
    obtain ⟨its,_,ht,_⟩:=I.tuple q
    exact eqAt_Tf hfe ry ht hu2
   ·obtain ⟨a,vs,rfl,q,_⟩:=hd
    cases rx
    obtain ⟨its,_,hp,_⟩:=I.list q
    exact eqAt_Lf hfe ry hp.isList hu2
  | none=>exact eqAt_refs I hfd hfe hd he rx ry E hu2
theorem dpD_parts {d:D} {ds:List D} (h:d=.tup ds\/d=.lst ds) {c:D} (m:c∈ds):dpD c+1<=dpD d:=by
 have:=dpDs_mem m
 rcases h with rfl | rfl
 ·have z:dpD (D.tup ds)=dpDs ds+1:=by simp only [dpD]
  omega
 ·have z:dpD (D.lst ds)=dpDs ds+1:=by simp only [dpD]
  omega
theorem eqAt_Dn (I:Zs X pins σ H s) (n:Nat):∀ (A:Around) (d e:D) (x y:V) (u v:Value),dpD d<n->Y1 X.K H d x->Y1 X.K H e y->Yq x u->Yq y v->A.units+dpD d<cLine->SeqAt.EqAt A s u v (eqD d e):=by
 induction n with
 | zero=>intro A d e x y u v h; exact absurd h (Nat.not_lt_zero _)
 | succ n ih =>
  intro A d e x y u v h hd he rx ry hu
  refine eqAt_step I hd he rx ry (fun ds hds c hc e' x' y' u' v' h1 h2 r1 r2=>?_) (by omega)
  have hp:=dpD_parts hds hc
  refine ih A.in1 c e' x' y' u' v' (by omega) h1 h2 r1 r2 ?_
  show A.units+1+dpD c<cLine
  omega
theorem eqAt_D (I:Zs X pins σ H s) (d e:D) (x y:V) (u v:Value) (A:Around) (hd:Y1 X.K H d x) (he:Y1 X.K H e y) (rx:Yq x u) (ry:Yq y v) (hu:A.units+dpD d<cLine) (hu2:A.units<cLine) :
  SeqAt.EqAt A s u v (eqD d e):=eqAt_Dn I (dpD d+1) A d e x y u v (Nat.lt_succ_self _) hd he rx ry hu
end
theorem rcEq_V {A:Around} {s:Shared} {y x:V} {u v:Value} (ry:Yq y u) (rx:Yq x v) (fy:flatV y=true) (fx:flatV x=true):SeqAt.RcAt A s u v ((eqV y x)):=by
 cases y with
 | non =>
  cases ry
  cases x with
  | non=>cases rx; exact SeqAt.RcAt.none_none
  | bl b=>cases rx; exact SeqAt.RcAt.none_bool b
  | int b=>obtain ⟨t,rfl⟩:=rx; exact SeqAt.RcAt.none_int b t
  | str b=>obtain ⟨t,rfl⟩:=rx; exact SeqAt.RcAt.none_str b t
  | _=>exact absurd (show false=true from fx) Bool.false_ne_true
 | bl a =>
  cases ry
  cases x with
  | non=>cases rx; exact SeqAt.RcAt.bool_none a
  | bl b=>cases rx; exact SeqAt.RcAt.bool_bool a b
  | int b=>obtain ⟨t,rfl⟩:=rx; exact SeqAt.RcAt.bool_int a b t
  | str b=>obtain ⟨t,rfl⟩:=rx; exact SeqAt.RcAt.bool_str a b t
  | _=>exact absurd (show false=true from fx) Bool.false_ne_true
 | int a =>
  obtain ⟨t',rfl⟩:=ry
  cases x with
  | non=>cases rx; exact SeqAt.RcAt.int_none a t'
  | bl b=>cases rx; exact SeqAt.RcAt.int_bool a t' b
  | int b=>obtain ⟨t,rfl⟩:=rx; exact SeqAt.RcAt.int_int a t' b t
  | str b=>obtain ⟨t,rfl⟩:=rx; exact SeqAt.RcAt.int_str a t' b t
  | _=>exact absurd (show false=true from fx) Bool.false_ne_true
 | str a =>
  obtain ⟨t',rfl⟩:=ry
  cases x with
  | non=>cases rx; exact SeqAt.RcAt.str_none a t'
  | bl b=>cases rx; exact SeqAt.RcAt.str_bool a t' b
  | int b=>obtain ⟨t,rfl⟩:=rx; exact SeqAt.RcAt.str_int a t' b t
  | str b=>obtain ⟨t,rfl⟩:=rx; exact SeqAt.RcAt.str_str a t' b t
  | _=>exact absurd (show false=true from fx) Bool.false_ne_true
 | _=>exact absurd (show false=true from fy) Bool.false_ne_true
theorem rcEq_D {X:Cx} {pins:List (Addr × Obj)} {σ:St} {H:Hp} {s:Shared} (I:Zs X pins σ H s) (d e:D) (x y:V) (u v:Value) (A:Around) (hd:Y1 X.K H d x) (he:Y1 X.K H e y) (rx:Yq x u) (ry:Yq y v) (hu:A.units+dpD d<cLine) (hu2:A.units<cLine) :
  SeqAt.RcAt A s u v ((eqD d e)):=by
 cases hfd:flD d with
 | some x' =>
  obtain ⟨rfl,fx⟩:=Y1.flat hfd hd
  cases hfe:flD e with
  | some y' =>
   obtain ⟨rfl,fy⟩:=Y1.flat hfe he
   rw [eqD_flat hfd hfe]
   exact rcEq_V rx ry fx fy
  | none =>
   cases e with
   | tup es =>
    obtain ⟨a,vs,rfl,q,_⟩:=he
    cases ry
    obtain ⟨its,_,ht,_⟩:=I.tuple q
    cases d with
    | non=>cases hfd; cases rx; exact SeqAt.RcAt.none_tuple ht hu2
    | bl b=>cases hfd; cases rx; exact SeqAt.RcAt.bool_tuple b ht hu2
    | int b=>cases hfd; obtain ⟨t,rfl⟩:=rx; exact SeqAt.RcAt.int_tuple b t ht hu2
    | str b=>cases hfd; obtain ⟨t,rfl⟩:=rx; exact SeqAt.RcAt.str_tuple b t ht hu2
    | tup _=>cases hfd
    | lst _=>cases hfd
   | lst es =>
    obtain ⟨a,vs,rfl,q,_⟩:=he
    cases ry
    obtain ⟨its,_,hp,_⟩:=I.list q
    have ht:=hp.isList
    cases d with
    | non=>cases hfd; cases rx; exact SeqAt.RcAt.none_list ht hu2
    | bl b=>cases hfd; cases rx; exact SeqAt.RcAt.bool_list b ht hu2
    | int b=>cases hfd; obtain ⟨t,rfl⟩:=rx; exact SeqAt.RcAt.int_list b t ht hu2
    | str b=>cases hfd; obtain ⟨t,rfl⟩:=rx; exact SeqAt.RcAt.str_list b t ht hu2
    | tup _=>cases hfd
    | lst _=>cases hfd
   | non=>cases hfe
   | bl _=>cases hfe
   | int _=>cases hfe
   | str _=>cases hfe
 | none =>
  cases hfe:flD e with
  | some y' =>
   obtain ⟨rfl,fy⟩:=Y1.flat hfe he
   cases d with
   | tup es =>
    obtain ⟨a,vs,rfl,q,_⟩:=hd
    cases rx
    obtain ⟨its,_,ht,_⟩:=I.tuple q
    cases e with
    | non=>cases hfe; cases ry; exact SeqAt.RcAt.tuple_none ht hu2
    | bl b=>cases hfe; cases ry; exact SeqAt.RcAt.tuple_bool b ht hu2
    | int b=>cases hfe; obtain ⟨t,rfl⟩:=ry; exact SeqAt.RcAt.tuple_int b t ht hu2
    | str b=>cases hfe; obtain ⟨t,rfl⟩:=ry; exact SeqAt.RcAt.tuple_str b t ht hu2
    | tup _=>cases hfe
    | lst _=>cases hfe
   | lst es =>
    obtain ⟨a,vs,rfl,q,_⟩:=hd
    cases rx
    obtain ⟨its,_,hp,_⟩:=I.list q
    have ht:=hp.isList
    cases e with
    | non=>cases hfe; cases ry; exact SeqAt.RcAt.list_none ht hu2
    | bl b=>cases hfe; cases ry; exact SeqAt.RcAt.list_bool b ht hu2
    | int b=>cases hfe; obtain ⟨t,rfl⟩:=ry; exact SeqAt.RcAt.list_int b t ht hu2
    | str b=>cases hfe; obtain ⟨t,rfl⟩:=ry; exact SeqAt.RcAt.list_str b t ht hu2
    | tup _=>cases hfe
    | lst _=>cases hfe
   | non=>cases hfd
   | bl _=>cases hfd
   | int _=>cases hfd
   | str _=>cases hfd
  | none =>
   cases d with
   | tup ds =>
    obtain ⟨a,vs,rfl,q,ar⟩:=hd
    cases rx
    obtain ⟨its,r,ht,_⟩:=I.tuple q
    cases e with
    | tup es =>
     obtain ⟨a',vs',rfl,q',ar'⟩:=he
     cases ry
     obtain ⟨its',r',ht',_⟩:=I.tuple q'
     have l1:its.toArray.size=ds.length:=by rw [List.size_toArray, <-r.length, <-ar.length]
     have l2:its'.toArray.size=es.length:=by rw [List.size_toArray, <-r'.length, <-ar'.length]
     have main:=SeqAt.RcAt.tuples (A:=A) (e:=fun j=>eqD (ds.getD j .non) (es.getD j .non)) ht ht' hu2 (fun j h1 h2=>by
       have j1:j<ds.length:=by omega
       have j2:j<es.length:=by omega
       have e1:ds[j]?=some ds[j]:=List.getElem?_eq_getElem j1
       have e2:es[j]?=some es[j]:=List.getElem?_eq_getElem j2
       obtain ⟨x1,g1,i1⟩:=ar.get e1
       obtain ⟨y1,g2,i2⟩:=ar'.get e2
       have d1:ds.getD j .non=ds[j]:=by simp [j1]
       have d2:es.getD j .non=es[j]:=by simp [j2]
       show SeqAt.EqAt A.in1 s _ _ (eqD (ds.getD j .non) (es.getD j .non))
       rw [d1,d2]
       have hm:=dpDs_mem (List.getElem_mem j1)
       have z1:dpD (D.tup ds)=dpDs ds+1:=by simp only [dpD]
       refine eqAt_D I ds[j] es[j] x1 y1 _ _ A.in1 i1 i2 (Y4 r (by simpa using h1) g1) (Y4 r' (by simpa using h2) g2) ?_ ?_
       ·show A.units+1+dpD ds[j]<cLine
        omega
       ·show A.units+1<cLine
        omega)
     rw [l1,l2,Ux] at main
     exact main
    | lst es =>
     obtain ⟨a',vs',rfl,q',ar'⟩:=he
     cases ry
     obtain ⟨its',r',hp',_⟩:=I.list q'
     exact SeqAt.RcAt.tuple_list ht hp'.isList hu2
    | non=>cases hfe
    | bl _=>cases hfe
    | int _=>cases hfe
    | str _=>cases hfe
   | lst ds =>
    obtain ⟨a,vs,rfl,q,ar⟩:=hd
    cases rx
    obtain ⟨its,r,hp,_⟩:=I.list q
    have ht:=hp.isList
    cases e with
    | lst es =>
     obtain ⟨a',vs',rfl,q',ar'⟩:=he
     cases ry
     obtain ⟨its',r',hp',_⟩:=I.list q'
     have ht':=hp'.isList
     have l1:its.toArray.size=ds.length:=by rw [List.size_toArray, <-r.length, <-ar.length]
     have l2:its'.toArray.size=es.length:=by rw [List.size_toArray, <-r'.length, <-ar'.length]
     by_cases hl:ds.length=es.length
     ·have main:=SeqAt.RcAt.lists (A:=A) (e:=fun j=>eqD (ds.getD j .non) (es.getD j .non)) ht ht' (by omega) hu2 (fun j h1 h2=>by
       have j1:j<ds.length:=by omega
       have j2:j<es.length:=by omega
       have e1:ds[j]?=some ds[j]:=List.getElem?_eq_getElem j1
       have e2:es[j]?=some es[j]:=List.getElem?_eq_getElem j2
       obtain ⟨x1,g1,i1⟩:=ar.get e1
       obtain ⟨y1,g2,i2⟩:=ar'.get e2
       have d1:ds.getD j .non=ds[j]:=by simp [j1]
       have d2:es.getD j .non=es[j]:=by simp [j2]
       show SeqAt.EqAt A.in1 s _ _ (eqD (ds.getD j .non) (es.getD j .non))
       rw [d1,d2]
       have hm:=dpDs_mem (List.getElem_mem j1)
       have z1:dpD (D.lst ds)=dpDs ds+1:=by simp only [dpD]
       refine eqAt_D I ds[j] es[j] x1 y1 _ _ A.in1 i1 i2 (Y4 r (by simpa using h1) g1) (Y4 r' (by simpa using h2) g2) ?_ ?_
       ·show A.units+1+dpD ds[j]<cLine
        omega
       ·show A.units+1<cLine
        omega)
      have al:=Ux ds es
      rw [<-hl,Nat.min_self,beq_self_eq_true,Bool.and_true] at al
      rw [l1,al] at main
      exact main
     ·have main:=SeqAt.RcAt.lists_lengths (A:=A) ht ht' (by rw [l1,l2]; simpa using hl) hu2
      have al:=Ux ds es
      have hf:(ds.length == es.length)=false:=by simpa using hl
      rw [hf,Bool.and_false] at al
      have z:eqD (D.lst ds) (D.lst es)=eqDs ds es:=by simp only [eqD]
      rw [z, <-al]
      exact main
    | tup es =>
     obtain ⟨a',vs',rfl,q',ar'⟩:=he
     cases ry
     obtain ⟨its',r',ht',_⟩:=I.tuple q'
     exact SeqAt.RcAt.list_tuple ht ht' hu2
    | non=>cases hfe
    | bl _=>cases hfe
    | int _=>cases hfe
    | str _=>cases hfe
   | non=>cases hfd
   | bl _=>cases hfd
   | int _=>cases hfd
   | str _=>cases hfd
theorem rcNe_V {A:Around} {s:Shared} {y x:V} {u v:Value} (ry:Yq y u) (rx:Yq x v) (fy:flatV y=true) (fx:flatV x=true):SeqAt.RcNeAt A s u v (!(eqV y x)):=by
 cases y with
 | non =>
  cases ry
  cases x with
  | non=>cases rx; exact SeqAt.RcNeAt.none_none
  | bl b=>cases rx; exact SeqAt.RcNeAt.none_bool b
  | int b=>obtain ⟨t,rfl⟩:=rx; exact SeqAt.RcNeAt.none_int b t
  | str b=>obtain ⟨t,rfl⟩:=rx; exact SeqAt.RcNeAt.none_str b t
  | _=>exact absurd (show false=true from fx) Bool.false_ne_true
 | bl a =>
  cases ry
  cases x with
  | non=>cases rx; exact SeqAt.RcNeAt.bool_none a
  | bl b=>cases rx; exact SeqAt.RcNeAt.bool_bool a b
  | int b=>obtain ⟨t,rfl⟩:=rx; exact SeqAt.RcNeAt.bool_int a b t
  | str b=>obtain ⟨t,rfl⟩:=rx; exact SeqAt.RcNeAt.bool_str a b t
  | _=>exact absurd (show false=true from fx) Bool.false_ne_true
 | int a =>
  obtain ⟨t',rfl⟩:=ry
  cases x with
  | non=>cases rx; exact SeqAt.RcNeAt.int_none a t'
  | bl b=>cases rx; exact SeqAt.RcNeAt.int_bool a t' b
  | int b=>obtain ⟨t,rfl⟩:=rx; exact SeqAt.RcNeAt.int_int a t' b t
  | str b=>obtain ⟨t,rfl⟩:=rx; exact SeqAt.RcNeAt.int_str a t' b t
  | _=>exact absurd (show false=true from fx) Bool.false_ne_true
 | str a =>
  obtain ⟨t',rfl⟩:=ry
  cases x with
  | non=>cases rx; exact SeqAt.RcNeAt.str_none a t'
  | bl b=>cases rx; exact SeqAt.RcNeAt.str_bool a t' b
  | int b=>obtain ⟨t,rfl⟩:=rx; exact SeqAt.RcNeAt.str_int a t' b t
  | str b=>obtain ⟨t,rfl⟩:=rx; exact SeqAt.RcNeAt.str_str a t' b t
  | _=>exact absurd (show false=true from fx) Bool.false_ne_true
 | _=>exact absurd (show false=true from fy) Bool.false_ne_true
theorem rcNe_D {X:Cx} {pins:List (Addr × Obj)} {σ:St} {H:Hp} {s:Shared} (I:Zs X pins σ H s) (d e:D) (x y:V) (u v:Value) (A:Around) (hd:Y1 X.K H d x) (he:Y1 X.K H e y) (rx:Yq x u) (ry:Yq y v) (hu:A.units+dpD d<cLine) (hu2:A.units<cLine) :
  SeqAt.RcNeAt A s u v (!(eqD d e)):=by
 cases hfd:flD d with
 | some x' =>
  obtain ⟨rfl,fx⟩:=Y1.flat hfd hd
  cases hfe:flD e with
  | some y' =>
   obtain ⟨rfl,fy⟩:=Y1.flat hfe he
   rw [eqD_flat hfd hfe]
   exact rcNe_V rx ry fx fy
  | none =>
   cases e with
   | tup es =>
    obtain ⟨a,vs,rfl,q,_⟩:=he
    cases ry
    obtain ⟨its,_,ht,_⟩:=I.tuple q
    cases d with
    | non=>cases hfd; cases rx; exact SeqAt.RcNeAt.none_tuple ht hu2
    | bl b=>cases hfd; cases rx; exact SeqAt.RcNeAt.bool_tuple b ht hu2
    | int b=>cases hfd; obtain ⟨t,rfl⟩:=rx; exact SeqAt.RcNeAt.int_tuple b t ht hu2
    | str b=>cases hfd; obtain ⟨t,rfl⟩:=rx; exact SeqAt.RcNeAt.str_tuple b t ht hu2
    | tup _=>cases hfd
    | lst _=>cases hfd
   | lst es =>
    obtain ⟨a,vs,rfl,q,_⟩:=he
    cases ry
    obtain ⟨its,_,hp,_⟩:=I.list q
    have ht:=hp.isList
    cases d with
    | non=>cases hfd; cases rx; exact SeqAt.RcNeAt.none_list ht hu2
    | bl b=>cases hfd; cases rx; exact SeqAt.RcNeAt.bool_list b ht hu2
    | int b=>cases hfd; obtain ⟨t,rfl⟩:=rx; exact SeqAt.RcNeAt.int_list b t ht hu2
    | str b=>cases hfd; obtain ⟨t,rfl⟩:=rx; exact SeqAt.RcNeAt.str_list b t ht hu2
    | tup _=>cases hfd
    | lst _=>cases hfd
   | non=>cases hfe
   | bl _=>cases hfe
   | int _=>cases hfe
   | str _=>cases hfe
 | none =>
  cases hfe:flD e with
  | some y' =>
   obtain ⟨rfl,fy⟩:=Y1.flat hfe he
   cases d with
   | tup es =>
    obtain ⟨a,vs,rfl,q,_⟩:=hd
    cases rx
    obtain ⟨its,_,ht,_⟩:=I.tuple q
    cases e with
    | non=>cases hfe; cases ry; exact SeqAt.RcNeAt.tuple_none ht hu2
    | bl b=>cases hfe; cases ry; exact SeqAt.RcNeAt.tuple_bool b ht hu2
    | int b=>cases hfe; obtain ⟨t,rfl⟩:=ry; exact SeqAt.RcNeAt.tuple_int b t ht hu2
    | str b=>cases hfe; obtain ⟨t,rfl⟩:=ry; exact SeqAt.RcNeAt.tuple_str b t ht hu2
    | tup _=>cases hfe
    | lst _=>cases hfe
   | lst es =>
    obtain ⟨a,vs,rfl,q,_⟩:=hd
    cases rx
    obtain ⟨its,_,hp,_⟩:=I.list q
    have ht:=hp.isList
    cases e with
    | non=>cases hfe; cases ry; exact SeqAt.RcNeAt.list_none ht hu2
    | bl b=>cases hfe; cases ry; exact SeqAt.RcNeAt.list_bool b ht hu2
    | int b=>cases hfe; obtain ⟨t,rfl⟩:=ry; exact SeqAt.RcNeAt.list_int b t ht hu2
    | str b=>cases hfe; obtain ⟨t,rfl⟩:=ry; exact SeqAt.RcNeAt.list_str b t ht hu2
    | tup _=>cases hfe
    | lst _=>cases hfe
   | non=>cases hfd
   | bl _=>cases hfd
   | int _=>cases hfd
   | str _=>cases hfd
  | none =>
   cases d with
   | tup ds =>
    obtain ⟨a,vs,rfl,q,ar⟩:=hd
    cases rx
    obtain ⟨its,r,ht,_⟩:=I.tuple q
    cases e with
    | tup es =>
     obtain ⟨a',vs',rfl,q',ar'⟩:=he
     cases ry
     obtain ⟨its',r',ht',_⟩:=I.tuple q'
     have l1:its.toArray.size=ds.length:=by rw [List.size_toArray, <-r.length, <-ar.length]
     have l2:its'.toArray.size=es.length:=by rw [List.size_toArray, <-r'.length, <-ar'.length]
     have main:=SeqAt.RcNeAt.tuples (A:=A) (e:=fun j=>eqD (ds.getD j .non) (es.getD j .non)) ht ht' hu2 (fun j h1 h2=>by
       have j1:j<ds.length:=by omega
       have j2:j<es.length:=by omega
       have e1:ds[j]?=some ds[j]:=List.getElem?_eq_getElem j1
       have e2:es[j]?=some es[j]:=List.getElem?_eq_getElem j2
       obtain ⟨x1,g1,i1⟩:=ar.get e1
       obtain ⟨y1,g2,i2⟩:=ar'.get e2
       have d1:ds.getD j .non=ds[j]:=by simp [j1]
       have d2:es.getD j .non=es[j]:=by simp [j2]
       show SeqAt.EqAt A.in1 s _ _ (eqD (ds.getD j .non) (es.getD j .non))
       rw [d1,d2]
       have hm:=dpDs_mem (List.getElem_mem j1)
       have z1:dpD (D.tup ds)=dpDs ds+1:=by simp only [dpD]
       refine eqAt_D I ds[j] es[j] x1 y1 _ _ A.in1 i1 i2 (Y4 r (by simpa using h1) g1) (Y4 r' (by simpa using h2) g2) ?_ ?_
       ·show A.units+1+dpD ds[j]<cLine
        omega
       ·show A.units+1<cLine
        omega)
     rw [l1,l2,Ux] at main
     exact main
    | lst es =>
     obtain ⟨a',vs',rfl,q',ar'⟩:=he
     cases ry
     obtain ⟨its',r',hp',_⟩:=I.list q'
     exact SeqAt.RcNeAt.tuple_list ht hp'.isList hu2
    | non=>cases hfe
    | bl _=>cases hfe
    | int _=>cases hfe
    | str _=>cases hfe
   | lst ds =>
    obtain ⟨a,vs,rfl,q,ar⟩:=hd
    cases rx
    obtain ⟨its,r,hp,_⟩:=I.list q
    have ht:=hp.isList
    cases e with
    | lst es =>
     obtain ⟨a',vs',rfl,q',ar'⟩:=he
     cases ry
     obtain ⟨its',r',hp',_⟩:=I.list q'
     have ht':=hp'.isList
     have l1:its.toArray.size=ds.length:=by rw [List.size_toArray, <-r.length, <-ar.length]
     have l2:its'.toArray.size=es.length:=by rw [List.size_toArray, <-r'.length, <-ar'.length]
     by_cases hl:ds.length=es.length
     ·have main:=SeqAt.RcNeAt.lists (A:=A) (e:=fun j=>eqD (ds.getD j .non) (es.getD j .non)) ht ht' (by omega) hu2 (fun j h1 h2=>by
       have j1:j<ds.length:=by omega
       have j2:j<es.length:=by omega
       have e1:ds[j]?=some ds[j]:=List.getElem?_eq_getElem j1
       have e2:es[j]?=some es[j]:=List.getElem?_eq_getElem j2
       obtain ⟨x1,g1,i1⟩:=ar.get e1
       obtain ⟨y1,g2,i2⟩:=ar'.get e2
       have d1:ds.getD j .non=ds[j]:=by simp [j1]
       have d2:es.getD j .non=es[j]:=by simp [j2]
       show SeqAt.EqAt A.in1 s _ _ (eqD (ds.getD j .non) (es.getD j .non))
       rw [d1,d2]
       have hm:=dpDs_mem (List.getElem_mem j1)
       have z1:dpD (D.lst ds)=dpDs ds+1:=by simp only [dpD]
       refine eqAt_D I ds[j] es[j] x1 y1 _ _ A.in1 i1 i2 (Y4 r (by simpa using h1) g1) (Y4 r' (by simpa using h2) g2) ?_ ?_
       ·show A.units+1+dpD ds[j]<cLine
        omega
       ·show A.units+1<cLine
        omega)
      have al:=Ux ds es
      rw [<-hl,Nat.min_self,beq_self_eq_true,Bool.and_true] at al
      rw [l1,al] at main
      exact main
     ·have main:=SeqAt.RcNeAt.lists_lengths (A:=A) ht ht' (by rw [l1,l2]; simpa using hl) hu2
      have al:=Ux ds es
      have hf:(ds.length == es.length)=false:=by simpa using hl
      rw [hf,Bool.and_false] at al
      have z:eqD (D.lst ds) (D.lst es)=eqDs ds es:=by simp only [eqD]
      rw [z, <-al]
      exact main
    | tup es =>
     obtain ⟨a',vs',rfl,q',ar'⟩:=he
     cases ry
     obtain ⟨its',r',ht',_⟩:=I.tuple q'
     exact SeqAt.RcNeAt.list_tuple ht ht' hu2
    | non=>cases hfe
    | bl _=>cases hfe
    | int _=>cases hfe
    | str _=>cases hfe
   | non=>cases hfd
   | bl _=>cases hfd
   | int _=>cases hfd
   | str _=>cases hfd
section
variable {X:Cx}
def rEqD (K:W.Frag) (A:Around):R2:=fun x y H Q=>∃ d e,Y1 K H d x/\Y1 K H e y/\A.units+dpD d<cLine/\Q (.bl (eqD d e)) H
def rNeD (K:W.Frag) (A:Around):R2:=fun x y H Q=>∃ d e,Y1 K H d x/\Y1 K H e y/\A.units+dpD d<cLine/\Q (.bl (!eqD d e)) H
theorem op_eqD:OpR X (compareOp .Eq) (rEqD X.K X.A):=by
 intro pins s σ H x y v u Q I rx ry h
 obtain ⟨d,e,hd,he,hu,q⟩:=h
 exact rcEq_D I d e x y v u X.A hd he rx ry hu (by omega) X.prog X.w X.xe _ ⟨.bl _,H,I,rfl,q⟩
theorem op_neD:OpR X (compareOp .NotEq) (rNeD X.K X.A):=by
 intro pins s σ H x y v u Q I rx ry h
 obtain ⟨d,e,hd,he,hu,q⟩:=h
 exact rcNe_D I d e x y v u X.A hd he rx ry hu (by omega) X.prog X.w X.xe _ ⟨.bl _,H,I,rfl,q⟩
theorem call_isi:CallR X (.builtin "isinstance") (fun xs H Q=>∃ x T t b,xs=[x,.ty T]/\TyOf X.K H x t/\W.kitOne X.K t (.type T)=some b/\Q (.bl b) H):=by
 intro pins s σ H xs us Q I r h
 obtain ⟨x,T,t,b,rfl,ty,e,q⟩:=h
 obtain ⟨u,w',rfl,rx,ry⟩:=vals2 r
 cases ry
 exact isinst_ok I rx ty e (fun tk=>⟨.bl b,H,I.tok _,rfl,q⟩)
end
abbrev noE:Value->Shared->Prop:=fun _ _=>False
def testsOf (ifs:List Expr) (env:Env):Sem Bool :=
 forIn ifs true fun c r=>if r=true then (isTrue c env (eval c env) >>= fun b=>pure (ForInStep.yield b)) else pure (ForInStep.yield r)
section
variable (prog:Program) (w:World) (A:Around) (tg elt:Expr) (ifs:List Expr) (env:Env) (it acc:Value)
def TurnEnd (nxt:Shared->Prop) (ok:Bool) (s:Shared):Prop :=
 if ok=true then wpAny (model prog w) A (eval elt env) (fun y s1=>wpAny (model prog w) A (call (.builtin "list.append") [acc,y]) (fun _ s2=>nxt s2) noE s1) noE s else nxt s
def TurnGo (nxt:Shared->Prop) (v:Value) (s:Shared):Prop :=
 wpAny (model prog w) A (letOwnedTupleGo tg it v) (fun _ s1=>wpAny (model prog w) A (assign tg env v) (fun _ s2=>wpAny (model prog w) A (testsOf ifs env) (TurnEnd prog w A elt env acc nxt) noE s2) noE s1) noE s
end
theorem compLoop_gen {prog:Program} {w:World} {A:Around} {R:Result->Shared->Prop} {s:Shared} {elt tg iter:Expr} {ifs:List Expr} {scope:Scope} {pos:Pos} {it acc:Value} {env:Env} (W:Nat->Shared->Prop)
  (turn:∀ m s1,W m s1->wpAny (model prog w) A (pyNext it) (fun r s2=>r.elim (R (.ok .next) s2) fun v=>TurnGo prog w A tg elt ifs env it acc (fun s3=>∃ m',m'<m/\W m' s3) v s2) noE s1)
  (m:Nat) (start:W m s):codeAny (model prog w) A (.compLoop (.ListComp elt [⟨tg,iter,ifs,0⟩] scope pos) 0 it acc env) R s:=by
 refine codeAny_loop rfl W (fun k s1 hw=>?_) m start
 refine wpAny_noted (env:=env) (m:=compTurn (.ListComp elt [⟨tg,iter,ifs,0⟩] scope pos) 0 it acc env) ?_
 rw [compTurn_list]
 refine wpAny_bind (wpAny_standAt (wpAny_bind (wpAny_mono (turn k s1 hw) (fun r s2 q=>?_) fun _ _ z=>z.elim)))
 cases r with
 | none=>exact wpAny_pure q
 | some v =>
  have q:TurnGo prog w A tg elt ifs env it acc (fun s3=>∃ m',m'<k/\W m' s3) v s2:=q
  refine wpAny_bind (wpAny_mono q (fun _ s3 q3=>wpAny_bind (wpAny_mono q3 (fun _ s4 q4=>wpAny_bind (wpAny_mono q4 (fun ok s5 q5=>?_) fun _ _ z=>z.elim)) fun _ _ z=>z.elim)) fun _ _ z=>z.elim)
  cases ok with
  | false=>exact wpAny_pure ⟨rfl,q5⟩
  | true=>exact wpAny_bind (wpAny_bind (wpAny_mono q5 (fun y s6 q6=>wpAny_bind (wpAny_mono q6 (fun _ s7 q7=>wpAny_pure (wpAny_pure ⟨rfl,q7⟩)) fun _ _ z=>z.elim)) fun _ _ z=>z.elim))
def Vs (env:Env):List (Str × NameKind)->List (Str × Addr)->List (Str × Addr)
 | [],cs=>cs
 | (n,k)::r,cs=>Vs env r (if k == .free then (n,(env.cells.lookup n).getD 0)::cs else cs)
def Y0 (X:Cx) (scope:Scope) (N:List Str) (fp:List Addr) (s:Shared) (H:Hp):Cx :=
 { X with N:=N,s₀:=s,H₀:=H,env:=compEnvC scope (Vs X.env scope.names []) s.heap.objs.size X.env,outer:=X.stack,stack:=X.stack,ex:=fp,fn:=fun _=>false,pn:=[],xe:=noE }
structure CompOk (X:Cx) (scope:Scope) (N:List Str) (fr:List (Option Nat)):Prop where
 clos:closureFor scope X.env=pure (Vs X.env scope.names [])
 kind:scope.kind=.function
 nocell:∀ y∈scope.names,y.2≠.cell
 names:∀ y∈scope.names,y.2=.local->scope.names.lookup y.1=some .local
 cells:∀ x c,(Vs X.env scope.names []).lookup x=some c->X.env.cells.lookup x=some c
 has:∀ x,((relabel scope X.env).names.lookup x=some .cell\/(relabel scope X.env).names.lookup x=some .free)->∃ c,(Vs X.env scope.names []).lookup x=some c
 len:fr.length=N.length
 fr:∀ (i j:Nat),fr[i]?=some (some j)->∃ x,N[i]?=some x/\X.N[j]?=some x/\Vis X.env.scope x/\¬ X.env.kindOf x=some .local/\((relabel scope X.env).names.lookup x=some .cell\/(relabel scope X.env).names.lookup x=some .free)
def frees (fr:List (Option Nat)) (σ:St):St:=fr.map fun o=>o.bind fun i=>(σ[i]?).bind id
theorem frees_length (fr:List (Option Nat)) (σ:St):(frees fr σ).length=fr.length:=List.length_map _
theorem frees_get {fr:List (Option Nat)} {σ:St} {i:Nat} {v:V} (h:(frees fr σ)[i]?=some (some v)):∃ j,fr[i]?=some (some j)/\σ[j]?=some (some v):=by
 unfold frees at h
 rw [List.getElem?_map] at h
 cases e:fr[i]? with
 | none=>rw [e] at h; cases h
 | some o =>
  rw [e] at h
  cases o with
  | none=>cases h
  | some j =>
   refine ⟨j,rfl, ?_⟩
   have h':(σ[j]?).bind id=some v:=Option.some.inj h
   cases e2:σ[j]? with
   | none=>rw [e2] at h'; cases h'
   | some o2=>rw [e2] at h'; exact congrArg some h'
theorem mem_relabel {scope:Scope} {env:Env} {x:Str} {k:NameKind} (h:(relabel scope env).names.lookup x=some k):∃ k0,(x,k0)∈scope.names/\(k=k0\/(k0=.free/\k=.cell)):=by
 have hm:=PySem.mem_of_lookup h
 obtain ⟨⟨n,k0⟩,h1,h2⟩:=List.mem_map.mp (show (x,k)∈scope.names.map _ from hm)
 dsimp only at h2
 split at h2
 ·rename_i hc
  cases h2
  simp only [Bool.and_eq_true,beq_iff_eq] at hc
  exact ⟨k0,h1,.inr ⟨hc.1.1,rfl⟩⟩
 ·cases h2
  exact ⟨k,h1,.inl rfl⟩
def scOk (outer scope:Scope):Bool :=
 decide (scope.kind=.function) && scope.names.all fun y=>decide (y.2≠.cell) && (decide (y.2≠.local) || decide (scope.names.lookup y.1=some .local)) &&
  (decide (y.2≠.free) || decide (outer.names.lookup y.1=some .cell) || decide (outer.names.lookup y.1=some .free))
def frOk (NX:List Str) (names:List (Str × NameKind)):List Str->List (Option Nat)->Bool
 | [],[]=>true
 | _::N,none::fr=>frOk NX names N fr
 | x::N,some j::fr=>decide (NX[j]?=some x) && decide (names.lookup x=some .free) && frOk NX names N fr
 | _,_=>false
theorem frOk_len {NX:List Str} {names:List (Str × NameKind)}:∀ {N:List Str} {fr:List (Option Nat)},frOk NX names N fr=true->fr.length=N.length
 | [],[],_=>rfl
 | [],_::_,h=>by simp [frOk] at h
 | _::_,[],h=>by simp [frOk] at h
 | x::N,none::fr,h=>by
  simp only [frOk] at h
  simp only [List.length_cons,frOk_len h]
 | x::N,some j::fr,h=>by
  simp only [frOk,Bool.and_eq_true] at h
  simp only [List.length_cons,frOk_len h.2]
theorem frOk_get {NX:List Str} {names:List (Str × NameKind)}:∀ {N:List Str} {fr:List (Option Nat)} {i j:Nat},frOk NX names N fr=true->fr[i]?=some (some j)->∃ x,N[i]?=some x/\NX[j]?=some x/\names.lookup x=some .free
 | [],[],_,_,_,e=>by simp at e
 | [],_::_,_,_,h,_=>by simp [frOk] at h
 | _::_,[],_,_,h,_=>by simp [frOk] at h
 | x::N,none::fr,0,_,_,e=>by simp at e
 | x::N,none::fr,i+1,j,h,e=>by
  simp only [frOk] at h
  obtain ⟨y,h1,h2⟩:=frOk_get (i:=i) h (by simpa using e)
  exact ⟨y,by simpa using h1,h2⟩
 | x::N,some k::fr,0,j,h,e=>by
  simp only [frOk,Bool.and_eq_true,decide_eq_true_eq] at h
  simp at e
  subst e
  exact ⟨x,rfl,h.1.1,h.1.2⟩
 | x::N,some k::fr,i+1,j,h,e=>by
  simp only [frOk,Bool.and_eq_true] at h
  obtain ⟨y,h1,h2⟩:=frOk_get (i:=i) h.2 (by simpa using e)
  exact ⟨y,by simpa using h1,h2⟩
theorem lookup_map_kind {f:Str->NameKind->NameKind} (x:Str):∀ names:List (Str × NameKind),(names.map fun p=>(p.1,f p.1 p.2)).lookup x=(names.lookup x).map (f x)
 | []=>rfl
 | (n,k)::r=>by
  have ih:=lookup_map_kind (f:=f) x r
  cases e:x == n with
  | false =>
   simp only [List.map_cons,List.lookup_cons,e]
   exact ih
  | true =>
   have e':x=n:=by simpa using e
   simp only [List.map_cons,List.lookup_cons,e,Option.map_some]
   rw [e']
theorem relabel_names (scope:Scope) (env:Env):(relabel scope env).names=scope.names.map fun p=>(p.1,if (p.2 == NameKind.free && env.scope.kind == .function && env.kindOf p.1 == some .cell)=true then NameKind.cell else p.2):=by
 show scope.names.map _=_
 refine List.map_congr_left fun p _=>?_
 obtain ⟨n,k⟩:=p
 dsimp only
 split <;> rfl
theorem lookup_relabel_free {scope:Scope} {env:Env} {x:Str} (h:scope.names.lookup x=some .free):(relabel scope env).names.lookup x=some .cell\/(relabel scope env).names.lookup x=some .free:=by
 rw [relabel_names,lookup_map_kind (f:=fun n k=>if (k == NameKind.free && env.scope.kind == .function && env.kindOf n == some .cell)=true then NameKind.cell else k),h]
 dsimp only [Option.map_some]
 split
 ·exact .inl rfl
 ·exact .inr rfl
theorem closOf_mem {env:Env}:∀ {names:List (Str × NameKind)} {cs:List (Str × Addr)},(∀ y∈names,y.2=.free->∃ c,env.cells.lookup y.1=some c)->(∀ p∈cs,env.cells.lookup p.1=some p.2)->∀ p∈Vs env names cs,env.cells.lookup p.1=some p.2
 | [],cs,_,hc,p,hp=>hc p hp
 | (n,k)::r,cs,hn,hc,p,hp=>by
  simp only [Vs] at hp
  refine closOf_mem (fun y hy=>hn y (List.mem_cons_of_mem _ hy)) (fun q hq=>?_) p hp
  split at hq
  ·rename_i hk
   rcases List.mem_cons.mp hq with e | hq
   ·obtain ⟨c,hc'⟩:=hn (n,k) List.mem_cons_self (by simpa using hk)
    subst e
    dsimp only at hc' ⊢
    rw [hc']
    rfl
   ·exact hc q hq
  ·exact hc q hq
theorem closOf_old {env:Env}:∀ {names:List (Str × NameKind)} {cs:List (Str × Addr)} {p:Str × Addr},p∈cs->p∈Vs env names cs
 | [],_,_,h=>h
 | (n,k)::r,cs,p,h=>by
  simp only [Vs]
  refine closOf_old ?_
  split
  ·exact List.mem_cons_of_mem _ h
  ·exact h
theorem closOf_has {env:Env}:∀ {names:List (Str × NameKind)} {cs:List (Str × Addr)} {x:Str},(x,NameKind.free)∈names->∃ c,(x,c)∈Vs env names cs
 | (n,k)::r,cs,x,h=>by
  rcases List.mem_cons.mp h with e | h
  ·cases e
   exact ⟨_,by simp only [Vs,beq_self_eq_true,if_true]; exact closOf_old List.mem_cons_self⟩
  ·simp only [Vs]
   exact closOf_has h
theorem lookup_of_mem {β:Type}:∀ {l:List (Str × β)} {x:Str} {b:β},(x,b)∈l->∃ c,l.lookup x=some c
 | (n,c)::r,x,b,h=>by
  cases hx:x == n with
  | true=>exact ⟨c,by simp only [List.lookup_cons,hx]⟩
  | false =>
   rcases List.mem_cons.mp h with e | h
   ·cases e
    simp at hx
   ·obtain ⟨d,hd⟩:=lookup_of_mem h
    exact ⟨d,by simp only [List.lookup_cons,hx]; exact hd⟩
theorem closureFor_eq {scope:Scope} {env:Env} (h:∀ y∈scope.names,y.2=.free->∃ c,env.cells.lookup y.1=some c):closureFor scope env=pure (Vs env scope.names []):=by
 have go:∀ (names:List (Str × NameKind)) (cs:List (Str × Addr)),(∀ y∈names,y.2=.free->∃ c,env.cells.lookup y.1=some c) ->
   (forIn names cs fun x cs=>(do
    if x.2 == NameKind.free then pure (ForInStep.yield ((x.1, <-cellOf env x.1)::cs)) else pure (ForInStep.yield cs):Sem (ForInStep (List (Str × Addr)))))=pure (Vs env names cs):=by
  intro names
  induction names with
  | nil=>intro cs _; rfl
  | cons y r ih =>
   intro cs hn
   obtain ⟨n,k⟩:=y
   have hr:∀ y∈r,y.2=.free->∃ c,env.cells.lookup y.1=some c:=fun y hy=>hn y (List.mem_cons_of_mem _ hy)
   rw [List.forIn_cons]
   by_cases hk:k=.free
   ·subst hk
    obtain ⟨c,hc⟩:=hn (n,.free) List.mem_cons_self rfl
    have ec:cellOf env n=pure c:=by
     unfold cellOf
     dsimp only at hc
     rw [hc]
    simp only [beq_self_eq_true,if_true,ec,pure_bind,Vs]
    rw [ih _ hr]
    dsimp only at hc
    rw [hc]
    rfl
   ·have hb:(k == NameKind.free)=false:=by simpa using hk
    simp only [hb,Bool.false_eq_true,if_false,pure_bind,Vs]
    exact ih _ hr
 have:=go scope.names [] h
 unfold closureFor
 simp only [bind_pure_comp] at this ⊢
 first
  | exact this
  | (simpa using this)
structure CompFr (X:Cx) (NX:List Str) (outer scope:Scope) (N:List Str) (fr:List (Option Nat)):Prop where
 nx:X.N=NX
 sc:X.env.scope.names=outer.names
 ok1:scOk outer scope=true
 ok2:frOk NX scope.names N fr=true
theorem CompFr.ok {X:Cx} {NX:List Str} {outer scope:Scope} {N:List Str} {fr:List (Option Nat)} (C:CompFr X NX outer scope N fr) (ok:X.Ok):CompOk X scope N fr:=by
 have h1:=C.ok1
 unfold scOk at h1
 simp only [Bool.and_eq_true,decide_eq_true_eq,List.all_eq_true,Bool.or_eq_true] at h1
 obtain ⟨hk,hn⟩:=h1
 have kof:∀ x,X.env.kindOf x=outer.names.lookup x:=fun x=>by
  show X.env.scope.names.lookup x=_
  rw [C.sc]
 have hfree:∀ y∈scope.names,y.2=.free->X.env.kindOf y.1=some .cell\/X.env.kindOf y.1=some .free:=fun y hy e=>by
  rcases (hn y hy).2 with (z | z) | z
  ·exact absurd e z
  ·exact .inl ((kof _).trans z)
  ·exact .inr ((kof _).trans z)
 have hcell:∀ y∈scope.names,y.2=.free->∃ c,X.env.cells.lookup y.1=some c:=fun y hy e=>ok.has y.1 (hfree y hy e)
 refine ⟨closureFor_eq hcell,hk,fun y hy=>(hn y hy).1.1,fun y hy e=>?_,fun x c e=>?_,fun x h=>?_,frOk_len C.ok2,fun i j e=>?_⟩
 ·rcases (hn y hy).1.2 with z | z
  ·exact absurd e z
  ·exact z
 ·exact closOf_mem hcell (fun p hp=>by cases hp) (x,c) (PySem.mem_of_lookup e)
 ·have hm:(x,NameKind.free)∈scope.names:=by
   rcases h with h | h
   ·obtain ⟨k0,h1,h2⟩:=mem_relabel h
    rcases h2 with h2 | ⟨h2,_⟩
    ·exact absurd h2.symm (hn _ h1).1.1
    ·subst h2; exact h1
   ·obtain ⟨k0,h1,h2⟩:=mem_relabel h
    rcases h2 with h2 | ⟨_,h2⟩
    ·subst h2; exact h1
    ·cases h2
  obtain ⟨c,hc⟩:=closOf_has (env:=X.env) (cs:=[]) hm
  exact lookup_of_mem hc
 ·obtain ⟨x,q1,q2,q3⟩:=frOk_get C.ok2 e
  have hm:=PySem.mem_of_lookup q3
  have hf:=hfree (x,.free) hm rfl
  refine ⟨x,q1,by rw [C.nx]; exact q2, ?_, ?_,lookup_relabel_free q3⟩
  ·exact .inr hf
  ·intro z
   dsimp only at hf
   rw [z] at hf
   rcases hf with hf | hf <;> cases hf
section
variable {X:Cx} {scope:Scope} {N:List Str} {fr:List (Option Nat)} {pins:List (Addr × Obj)} {σ:St} {H:Hp} {s:Shared} {fp:List Addr}
theorem inv_comp (C:CompOk X scope N fr) (I:Zs X pins σ H s) (hf:∀ b∈fp,FpOk X pins H b) (hob:∀ b∈fp,∃ o,s.heap.get? b=some o) {h1:Heap} {tk:Nat}
  (hns:h1.Ns s.heap.objs.size fun _=>none) (hk:∀ b o,s.heap.get? b=some o->h1.get? b=some o) :
  Zs (Y0 X scope N fp s H) [] (frees fr σ) H { s with heap:=h1,toks:=tk }:=by
 have lt:∀ b∈fp,b<s.heap.objs.size:=fun b hb=>let ⟨_,e⟩:=hob b hb; Heap.lt_size e
 have cellK:∀ x c,(Vs X.env scope.names []).lookup x=some c->∃ v,s.heap.IsCell c v:=fun x c e=>I.cell x c (C.cells x c e)
 have ck:∀ c v,s.heap.IsCell c v->h1.IsCell c v:=fun c v ⟨o,e,d⟩=>⟨o,hk c o e,d⟩
 refine ⟨⟨I.ok.mod,C.kind,I.ok.glob,I.ok.blt,Nat.le_refl _,fun x y c e1 e2=>I.ok.inj x y c (C.cells x c e1) (C.cells y c e2),fun x h=>C.has x h,fun x c h _=>absurd h Bool.false_ne_true,I.ok.hd,I.ok.frames,.inl rfl,
   fun b hb=>⟨Nat.ne_of_lt (lt b hb),fun x c e=>(hf b hb).2.2.2.2.1 x c (C.cells x c e)⟩,I.bs,Nat.le_trans I.ok.bsz I.sz,fun b o e hb=>?_,fun b hb hb'=>?_,I.stack,I.stkFree⟩,
  rfl,I.bare,Un.kept hk,⟨_,hns,fun i x v e1 e2 e3=>?_⟩,fun x c e=>?_,I.hok.fresh (Nat.le_refl _),fun x c e=>I.freeC x c (C.cells x c e),fun p hp=>absurd (show p∈([]:List (Addr × Obj)) from hp) (by simp),I.hok.kept hk, ?_⟩
 ·rcases (hf b hb).2.2.2.1 with z | z
  ·exact I.ok.noex b o e z
  ·exact absurd (Nat.lt_of_lt_of_le (Heap.lt_size (I.ok.bs b o e).1) z) (Nat.lt_irrefl _)
 ·rcases List.mem_cons.mp (I.stkSub b hb') with z | z
  ·exact (hf b hb).2.1 z
  ·exact (hf b hb).2.2.1 z
 ·obtain ⟨j,q1,q2⟩:=frees_get e2
  obtain ⟨x',n1,n2,vis,nl,k⟩:=C.fr i j q1
  have ex:x=x':=Option.some.inj (e1.symm.trans n1)
  subst ex
  obtain ⟨m,hm,hl⟩:=I.loc
  obtain ⟨u,r,l⟩:=hl j x v n2 q2 vis
  refine ⟨u,r, ?_⟩
  rcases l with ⟨l1,_⟩ | ⟨_,c,l2,l3⟩
  ·exact absurd l1 nl
  ·obtain ⟨c',hc'⟩:=C.has x k
   have ec:=C.cells x c' hc'
   rw [l2] at ec
   have ec':c=c':=Option.some.inj ec
   subst ec'
   exact .inr ⟨k,c,hc',ck c _ l3⟩
 ·obtain ⟨v,z⟩:=cellK x c e
  exact ⟨v,ck c v z⟩
 ·show (frees fr σ).length=N.length
  rw [frees_length,C.len]
theorem inv_uncomp (I:Zs X pins σ H s) (hf:∀ b∈fp,FpOk X pins H b) {σ':St} {H':Hp} {s':Shared} (J:Zs (Y0 X scope N fp s H) [] σ' H' s'):Zs X pins σ H' s' :=
 I.call' (ch:=fp) J.os J.base J.hok J.bare fun b hb=>⟨(hf b hb).2.2.2.1,(hf b hb).2.1,(hf b hb).2.2.2.2.1,(hf b hb).2.2.2.2.2⟩
end
def PTs (X:Cx) (ifs:List Expr) (t:TT):Prop :=
 ∀ (pins:List (Addr × Obj)) (s:Shared) (σ:St) (H:Hp) (Q:Bool->Hp->Prop),Zs X pins σ H s->t σ H Q ->
  wpAny (model X.prog X.w) X.A (testsOf ifs X.env) (TP X pins σ Q) X.xe s
def tAlways:TT:=fun _ H Q=>Q true H
theorem pts_nil {X:Cx}:PTs X [] tAlways:=fun _ _ _ H _ I h=>wpAny_tests_nil ⟨H,I,h⟩
theorem pts_one {X:Cx} {c:Expr} {t:TT} (h:PT X c t):PTs X [c] t:=fun pins s σ H Q I hw=>wpAny_tests_one (h pins s σ H Q I hw)
def CompW (J:It) (g:TG) (tt:TT) (te:TE) (D:Addr) (W:Nat->Nat->List V->St->Hp->Prop) (fin:Hp->Prop):Prop :=
 ∀ i m ys σ H,W i m ys σ H->H D=some (.lst ys)/\((J.stop i H/\fin H)\/(J.go i H/\∃ N:List V->St->Hp->Prop,(∀ ys' σ' H',N ys' σ' H'->∃ m',m'<m/\W (i+1) m' ys' σ' H') /\
  ∀ x H',J.yld i H x H'->g x σ H' fun σ2 H2=>tt σ2 H2 fun ok H3 =>
   if ok=true then te σ2 H3 fun y H4=>H4 D=some (.lst ys)/\ys.length<sizeLine/\N (ys++[y]) σ2 (Z6 H4 D (.lst (ys++[y]))) else N ys σ2 H3))
abbrev DG:=List Addr->Shared->Hp->TG
abbrev DT:=List Addr->Shared->Hp->TT
abbrev DE:=List Addr->Shared->Hp->TE
def tComp (wi:TI) (fr:List (Option Nat)) (g:DG) (tt:DT) (te:DE):TE:=fun σ H Q=>wi σ H fun J H1=>∀ D fp sx,H1 D=none ->
 ∃ W:Nat->Nat->List V->St->Hp->Prop,(∃ m,W 0 m [] (frees fr σ) (Z6 H1 D (.lst [])))/\CompW J (g fp sx (Z6 H1 D (.lst []))) (tt fp sx (Z6 H1 D (.lst []))) (te fp sx (Z6 H1 D (.lst []))) D W (fun H=>Q (.ref D) H)
section
variable {X:Cx} {scope:Scope} {N:List Str} {fr:List (Option Nat)} {tg elt iter:Expr} {ifs:List Expr} {pos:Pos} {wi:TI} {g:DG} {tt:DT} {te:DE}
theorem comp_run {pins:List (Addr × Obj)} {σ:St} {s2:Shared} {it:Addr} {fp:List Addr} {tn:Nat->Heap->Prop} {J:It} {H2:Hp} {RR:Value->Addr->Result->Shared->Prop} {E:Value->Shared->Prop}
  (hc:X.calm=true) (C:CompOk X scope N fr)
  (hg:∀ fp s H,PG (Y0 X scope N fp s H) tg (g fp s H)) (ht:∀ fp s H,PTs (Y0 X scope N fp s H) ifs (tt fp s H)) (he:∀ fp s H,PE (Y0 X scope N fp s H) elt (te fp s H))
  (I2:Zs X pins σ H2 s2) (T:Turn X.prog X.w X.K tg J fp it tn) (st2:tn 0 s2.heap) (f2:∀ b∈fp,FpOk X pins H2 b) {fin:Addr->Hp->Prop}
  (hW:∀ D fp sx,H2 D=none->∃ W:Nat->Nat->List V->St->Hp->Prop,(∃ m,W 0 m [] (frees fr σ) (Z6 H2 D (.lst [])))/\CompW J (g fp sx (Z6 H2 D (.lst []))) (tt fp sx (Z6 H2 D (.lst []))) (te fp sx (Z6 H2 D (.lst []))) D W (fin D))
  (hend:∀ D Cc s' σ' H' m,Zs X pins σ H' s'->H' Cc=none->Cc≠X.env.locals->Cc ∉ X.fs->X.s₀.heap.objs.size<=Cc->(∀ x c,X.env.cells.lookup x=some c->c≠Cc)->(∀ p∈X.pn++pins,p.1≠Cc)->s'.heap.Ns Cc m->fin D H' ->
   RR (.ref D) Cc (.ok σ') s') :
  wpAny (model X.prog X.w) X.A (newList []) (fun acc s₃=>wpAny (model X.prog X.w) X.A (newFunctionEnv scope X.env.globals (Vs X.env scope.names []) [] X.env.qual none .none (some X.env)) (fun cenv s₄ =>
   codeAny (model X.prog X.w) X.A (.compStart (.ListComp elt [⟨tg,iter,ifs,0⟩] scope pos) 0 (.ref it) acc { cenv with scope:=relabel scope X.env }) (RR acc cenv.locals) s₄) E s₃) E s2:=by
 refine wpAny_newObj_type (wpAny_newFunctionEnv C.nocell (by intro y hy; simp at hy) (fun h₁ hns₁ hsb₁=>?_) C.kind)
 dsimp only at hns₁ hsb₁ ⊢
 have I3:Zs X pins σ (Z6 H2 s2.heap.objs.size (.lst [])) { s2 with heap:=s2.heap.push { cls:=.type "list",dict:=none,data:=.seq ([]:List Value).toArray } } :=
  I2.laid (t':=s2.toks) (fun b o e=>Heap.get?_push_of_some _ e) (Nat.le_refl _) ⟨Nat.zero_le _,[],0,.nil,Heap.get?_push_size _ rfl⟩
 have hD:H2 s2.heap.objs.size=none:=I2.hok.fresh (Nat.le_refl _)
 obtain ⟨W,⟨m0,w0⟩,turn⟩:=hW _ fp { s2 with heap:=s2.heap.push { cls:=.type "list",dict:=none,data:=.seq ([]:List Value).toArray } } hD
 generalize hDD:s2.heap.objs.size=D at *
 generalize hS3:({ s2 with heap:=s2.heap.push { cls:=.type "list",dict:=none,data:=.seq ([]:List Value).toArray } }:Shared)=S3 at *
 have hS3h:s2.heap.push { cls:=.type "list",dict:=none,data:=.seq ([]:List Value).toArray }=S3.heap:=by rw [<-hS3]
 rw [hS3h] at hns₁ hsb₁ ⊢
 have obj2:=T.obj 0 _ st2
 have nD:∀ b∈fp,b≠D:=fun b hb z=>by
  obtain ⟨o,e,_⟩:=obj2 b hb
  have q:=Heap.lt_size e
  rw [hDD,z] at q
  exact absurd q (Nat.lt_irrefl _)
 have f3:∀ b∈fp,FpOk X pins (Z6 H2 D (.lst [])) b:=fun b hb=>⟨by rw [Zh (nD b hb)]; exact (f2 b hb).1,(f2 b hb).2⟩
 have ob3:∀ b∈fp,∃ o,S3.heap.get? b=some o:=fun b hb=>by
  obtain ⟨o,e,_⟩:=obj2 b hb
  exact ⟨o,by rw [<-hS3h]; exact Heap.get?_push_of_some _ e⟩
 have st3:tn 0 S3.heap:=T.keep _ _ _ st2 fun b hb o e=>by rw [<-hS3h]; exact Heap.get?_push_of_some _ e
 have hk1:∀ b o,S3.heap.get? b=some o->h₁.get? b=some o:=fun b o e=>hsb₁.extBut b o (Nat.ne_of_lt (Heap.lt_size e)) (Heap.get?_push_of_some _ e)
 have J1:Zs (Y0 X scope N fp S3 (Z6 H2 D (.lst []))) [] (frees fr σ) (Z6 H2 D (.lst [])) { S3 with heap:=h₁,toks:=s2.toks+([]:List (Str × Value)).length }:=inv_comp C I3 f3 ob3 hns₁ hk1
 have st4:tn 0 h₁:=T.keep _ _ _ st3 fun b hb o e=>hk1 b o e
 have es:({ s2 with heap:=h₁,toks:=s2.toks+([]:List (Str × Value)).length }:Shared)={ S3 with heap:=h₁,toks:=s2.toks+([]:List (Str × Value)).length }:=by rw [<-hS3]
 have FpC:∀ {H':Hp},(∀ b∈fp,H' b=none)->∀ b∈fp,FpOk (Y0 X scope N fp S3 (Z6 H2 D (.lst []))) [] H' b:=fun hn b hb =>
  ⟨hn b hb,(J1.ok.exf b hb).1,J1.ok.exfs b hb,.inl hb,(J1.ok.exf b hb).2,fun p hp=>absurd (show p∈([]:List (Addr × Obj)) from hp) (by simp)⟩
 have loop:codeAny (model X.prog X.w) X.A (.compLoop (.ListComp elt [⟨tg,iter,ifs,0⟩] scope pos) 0 (.ref it) (.ref D) (Y0 X scope N fp S3 (Z6 H2 D (.lst []))).env) (RR (.ref D) S3.heap.objs.size)
   { S3 with heap:=h₁,toks:=s2.toks+([]:List (Str × Value)).length }:=by
  refine compLoop_gen (fun n s'=>∃ i ys σ' H',Zs (Y0 X scope N fp S3 (Z6 H2 D (.lst []))) [] σ' H' s'/\tn i s'.heap/\(∀ b∈fp,H' b=none)/\W i n ys σ' H') ?_ m0 ⟨0,[],_,_,J1,st4,fun b hb=>(f3 b hb).1,w0⟩
  rintro n s5 ⟨i,ys,σ5,H5,J5,st5,fr5,w5⟩
  obtain ⟨hDl,alt⟩:=turn i n ys σ5 H5 w5
  rcases alt with ⟨stop,fi⟩ | ⟨go,NN,hNN,step⟩
  ·refine Vv (T.done (Y0 X scope N fp S3 (Z6 H2 D (.lst []))) rfl rfl rfl hc i [] s5 σ5 H5 noE J5 (FpC fr5) st5 stop) fun r s6 ⟨hr,J6⟩=>?_
   subst hr
   show RR (.ref D) S3.heap.objs.size (.ok .next) s6
   have I6:=inv_uncomp I3 f3 J6
   obtain ⟨mm,hmm,_⟩:=J6.loc
   refine hend D _ s6 _ H5 mm I6 J6.free ?_ ?_ ?_ ?_ ?_ hmm fi
   ·exact Nat.ne_of_gt I3.lt
   ·exact I3.nofs (Nat.le_refl _)
   ·exact I3.sz
   ·intro x c e z
    obtain ⟨v,q⟩:=I3.cell x c e
    exact absurd q.lt (by rw [z]; exact Nat.lt_irrefl _)
   ·intro p hp z
    exact absurd (Heap.lt_size (I3.pin p hp).1) (by rw [z]; exact Nat.lt_irrefl _)
  ·refine Vv (T.item (Y0 X scope N fp S3 (Z6 H2 D (.lst []))) rfl rfl rfl hc i [] s5 σ5 H5 noE J5 (FpC fr5) st5 go) fun r s6 ⟨u,hr,h6⟩=>?_
   subst hr
   refine Vv (Q:=_) h6 fun _ s7 ⟨x,H7,J7,r7,y7,st7,fr7⟩=>?_
   have J7':=J7.pinned (FpC fr7) (T.obj _ _ st7)
   have back:∀ {σ9:St} {H9:Hp} {s9:Shared},Zs (Y0 X scope N fp S3 (Z6 H2 D (.lst []))) ([]++pinsAt fp s7.heap) σ9 H9 s9->tn (i+1) s9.heap/\∀ b∈fp,H9 b=none:=fun {σ9 H9 s9} J9 =>
    ⟨T.keep _ _ _ st7 fun b hb o e=>(J9.pin (b,o) (List.mem_append_right _ (List.mem_append_right _ (mem_pinsAt hb e)))).1,fun b hb=>by
     obtain ⟨o,e,d⟩:=T.obj _ _ st7 b hb
     exact (J9.pin (b,o) (List.mem_append_right _ (List.mem_append_right _ (mem_pinsAt hb e)))).2.1⟩
   refine Vv (hg fp S3 _ _ s7 σ5 H7 x u _ J7' r7 (step x H7 y7)) fun _ s8 ⟨σ8,H8,J8,q8⟩=>?_
   refine Vv (ht fp S3 _ _ s8 σ8 H8 _ J8 q8) fun ok s9 ⟨H9,J9,q9⟩=>?_
   cases ok with
   | false =>
    rw [if_neg Bool.false_ne_true] at q9
    unfold TurnEnd
    rw [if_neg Bool.false_ne_true]
    obtain ⟨m',hm,w9⟩:=hNN _ _ _ q9
    exact ⟨m',hm,i+1,ys,σ8,H9,J9.unpinned,(back J9).1,(back J9).2,w9⟩
   | true =>
    rw [if_pos rfl] at q9
    unfold TurnEnd
    rw [if_pos rfl]
    refine Vv (he fp S3 _ _ s9 σ8 H9 _ J9 q9) fun yv s10 ⟨y,H10,J10,r10,hD10,hz,n10⟩=>?_
    obtain ⟨m',hm,w10⟩:=hNN _ _ _ n10
    refine Vv (V0 (X:=Y0 X scope N fp S3 (Z6 H2 D (.lst []))) _ s10 σ8 H10 (.ref D) [y] (.ref D) [yv] (fun _ H'=>H'=Z6 H10 D (.lst (ys++[y]))) J10 rfl (.cons r10 .nil) ⟨D,ys,y,rfl,rfl,hD10,hz,rfl⟩) fun _ s11 ⟨v11,H11,J11,_,e11⟩=>?_
    subst e11
    exact ⟨m',hm,i+1,ys++[y],σ8,_,J11.unpinned,(back J11).1,(back J11).2,w10⟩
 rw [es]
 exact codeAny_compStart_list loop (T.self _ 0 _ _ _ st4 loop)
theorem pe_comp {NX:List Str} {outer:Scope} (hc:X.calm=true) (hi:PI X tg iter wi) (C:CompFr X NX outer scope N fr)
  (hg:∀ fp s H,PG (Y0 X scope N fp s H) tg (g fp s H)) (ht:∀ fp s H,PTs (Y0 X scope N fp s H) ifs (tt fp s H)) (he:∀ fp s H,PE (Y0 X scope N fp s H) elt (te fp s H))
  (hs:∀ x,foldedSetIterable iter X.env x=pure x:=by intro _; rfl):PE X (.ListComp elt [⟨tg,iter,ifs,0⟩] scope pos) (tComp wi fr g tt te):=by
 intro pins s σ H Q I h
 have C:=C.ok I.ok
 rw [eval_ListComp]
 refine wpAny_comprehension_free (use:=none) rfl hs C.clos C.kind C.names (Vv (hi pins s σ H _ I h) fun v s1 h1=>Vv h1 fun itv s2 h2=>?_)
 obtain ⟨it,fp,tn,J,H2,e,I2,T,st2,f2,hW⟩:=h2
 subst e
 refine comp_run (RR:=fun acc Cc=>compPost (model X.prog X.w) X.A X.xe none (EP X pins σ Q) acc Cc) hc C hg ht he I2 T st2 f2 hW ?_
 intro D Cc s' fl H' m I' f0 f1 f2' f3 f4 f5 hns fi
 refine ⟨m,hns,fun h' sb=>?_⟩
 exact ⟨.ref D,H',I'.turned (t':=s'.toks) (fun b o hb e=>(sb.2 b hb).trans e) f0 f1 (.inr f3) f4 f5,rfl,fi⟩
theorem ps_setComp {NX:List Str} {outer:Scope} {i:Nat} {x:Str} {pos' pos2:Pos} (hN:X.N.Nodup) (hix:X.N[i]?=some x) (hx:Loc X.env.scope x) (hc:X.calm=true) (hi:PI X tg iter wi) (C:CompFr X NX outer scope N fr)
  (hg:∀ fp s H,PG (Y0 X scope N fp s H) tg (g fp s H)) (ht:∀ fp s H,PTs (Y0 X scope N fp s H) ifs (tt fp s H)) (he:∀ fp s H,PE (Y0 X scope N fp s H) elt (te fp s H))
  (hsw:swapsWith (.ListComp elt [⟨tg,iter,ifs,0⟩] scope pos) (some (.Name x pos')) pos2.line X.env=pure true:=by rfl)
  (hs:∀ x,foldedSetIterable iter X.env x=pure x:=by intro _; rfl) (hf:X.fn x=true\/X.env.scope.names.lookup x=some .local:=by first | exact .inl rfl | exact .inr rfl | assumption) :
  PS X (.Assign [.Name x pos'] (.ListComp elt [⟨tg,iter,ifs,0⟩] scope pos) pos2) (tAsg (tComp wi fr g tt te) (gName i)):=by
 intro pins s σ H Dd I h
 have C:=C.ok I.ok
 rw [exec_Assign_Name_used _ _ _ _ hsw]
 refine wpAny_bind (wpAny_standAt (wpAny_bind ?_))
 show wpAny _ X.A (do let _ <-comprehension (.ListComp elt [⟨tg,iter,ifs,0⟩] scope pos) scope X.env _ (newList []) false (eval iter X.env) (some (assign (.Name x pos') X.env))) _ _ s
 refine wpAny_bind (wpAny_mono (wpAny_comprehension_free (use:=some (assign (.Name x pos') X.env)) (Q:=fun _ s'=>SP X pins Dd .next s') rfl hs C.clos C.kind C.names
  (Vv (hi pins s σ H _ I h) fun v s1 h1=>Vv h1 fun itv s2 h2=>?_)) (fun _ s' hq=>wpAny_pure (wpAny_pure hq)) fun _ _ e=>e)
 obtain ⟨it,fp,tn,J,H2,e,I2,T,st2,f2,hW⟩:=h2
 subst e
 refine comp_run (RR:=fun acc Cc=>compPost (model X.prog X.w) X.A X.xe (some (assign (.Name x pos') X.env)) (fun _ s'=>SP X pins Dd .next s') acc Cc) hc C hg ht he I2 T st2 f2 hW ?_
 intro D Cc s' fl H' m I' f0 f1 f2' f3 f4 f5 hns fi
 show wpAny _ X.A (assign (.Name x pos') X.env (.ref D)) _ _ _
 refine wpAny_assign_Name (store_ok2 (v:=.ref D) I' hN hix hx rfl (fun s3 I3 ⟨a,sb,ha⟩=>?_) hf)
 have na:Cc≠a:=by
  rcases ha with z | z
  ·rw [z]; exact f1
  ·exact fun q=>f4 x a z q.symm
 refine ⟨m,hns.sameBut sb na,fun h' sb'=>?_⟩
 exact ⟨_,H',I3.turned (t':=s3.toks) (fun b o hb e=>(sb'.2 b hb).trans e) f0 f1 (.inr f3) f4 f5,fi⟩
end
theorem comp_range {lo:Int} {n:Nat} {D:Addr} {g:TG} {tt:TT} {te:TE} {fin:Hp->Prop} {σ0:St} {H0:Hp} (Pv:Nat->List V->St->Hp->Prop) (h0:Pv 0 [] σ0 H0)
  (hq:∀ i ys σ H,i<=n->Pv i ys σ H->H D=some (.lst ys))
  (hs:∀ i ys σ H,i<n->Pv i ys σ H->g (.int (lo+i)) σ H fun σ2 H2=>tt σ2 H2 fun ok H3=>if ok=true then te σ2 H3 fun y H4=>H4 D=some (.lst ys)/\ys.length<sizeLine/\Pv (i+1) (ys++[y]) σ2 (Z6 H4 D (.lst (ys++[y]))) else Pv (i+1) ys σ2 H3)
  (hd:∀ ys σ H,Pv n ys σ H->fin H):∃ W:Nat->Nat->List V->St->Hp->Prop,(∃ m,W 0 m [] σ0 H0)/\CompW (Itr lo n) g tt te D W fin:=by
 refine ⟨fun i m ys σ H=>m=n - i/\i<=n/\Pv i ys σ H,⟨n,by simp,Nat.zero_le _,h0⟩, ?_⟩
 rintro i m ys σ H ⟨rfl,hi,p⟩
 refine ⟨hq i ys σ H hi p, ?_⟩
 by_cases hlt:i<n
 ·refine .inr ⟨hlt,Pv (i+1),fun ys' σ' H' p'=>⟨n - (i+1),by omega,rfl,hlt,p'⟩,fun x H' y=>?_⟩
  obtain ⟨e,y⟩:=y
  subst e y
  exact hs i ys σ _ hlt p
 ·have e:i=n:=by omega
  subst e
  exact .inl ⟨Nat.le_refl _,hd ys σ H p⟩
end L2
namespace SetM
open PySem
def Ris (xs:Array Nat):Prop:=∀ a b (h:a<b) (hb:b<xs.size),xs[a]'(Nat.lt_trans h hb)<xs[b]
theorem getD_in {xs:Array Nat} {i d:Nat} (h:i<xs.size):xs.getD i d=xs[i]:=by simp [Array.getD,h]
theorem go_spec {xs:Array Nat} {j:Nat} (hr:Ris xs):∀ (fuel lo hi:Nat),hi - lo<=fuel->lo<=hi->hi<=xs.size->(∀ i (h:i<xs.size),i<lo->xs[i]<j)->(∀ i (h:i<xs.size),hi<=i->j<=xs[i]) ->
  (∀ i (h:i<xs.size),i<SetTable.below.go xs j fuel lo hi->xs[i]<j)/\(∀ i (h:i<xs.size),SetTable.below.go xs j fuel lo hi<=i->j<=xs[i])/\SetTable.below.go xs j fuel lo hi<=xs.size
 | 0,lo,hi,hf,hl,hs,h1,h2=>by
  have e:lo=hi:=by omega
  subst e
  simp only [SetTable.below.go]
  exact ⟨h1,h2,hs⟩
 | fuel+1,lo,hi,hf,hl,hs,h1,h2=>by
  simp only [SetTable.below.go]
  by_cases h:lo<hi
  ·rw [if_pos h]
   have hm:(lo+hi) / 2<xs.size:=by omega
   rw [getD_in hm]
   by_cases hc:xs[(lo+hi) / 2]<j
   ·rw [if_pos hc]
    refine go_spec hr fuel _ _ (by omega) (by omega) hs (fun i hi' hlt=>?_) h2
    rcases Nat.lt_or_ge i ((lo+hi) / 2) with z | z
    ·exact Nat.lt_trans (hr i _ z hm) hc
    ·have e:i=(lo+hi) / 2:=by omega
     subst e; exact hc
   ·rw [if_neg hc]
    refine go_spec hr fuel _ _ (by omega) (by omega) (by omega) h1 (fun i hi' hle=>?_)
    rcases Nat.lt_or_ge ((lo+hi) / 2) i with z | z
    ·have:=hr _ i z hi'; omega
    ·have e:i=(lo+hi) / 2:=by omega
     subst e; omega
  ·rw [if_neg h]
   have e:lo=hi:=by omega
   subst e
   exact ⟨h1,h2,hs⟩
theorem below_spec {xs:Array Nat} {j:Nat} (hr:Ris xs):(∀ i (h:i<xs.size),i<SetTable.below xs j->xs[i]<j)/\(∀ i (h:i<xs.size),SetTable.below xs j<=i->j<=xs[i])/\SetTable.below xs j<=xs.size :=
 go_spec hr xs.size 0 xs.size (by omega) (by omega) (Nat.le_refl _) (fun i _ h=>by omega) (fun i h h'=>by omega)
theorem below_next {xs:Array Nat} (hr:Ris xs) {i:Nat} (h:i<xs.size):SetTable.below xs (xs[i]+1)=i+1:=by
 obtain ⟨h1,h2,h3⟩:=below_spec (j:=xs[i]+1) hr
 rcases Nat.lt_trichotomy (SetTable.below xs (xs[i]+1)) (i+1) with z | z | z
 ·have:=h2 i h (by omega); omega
 ·exact z
 ·have hi:i+1<xs.size:=by omega
  have:=h1 (i+1) hi z
  have:=hr i (i+1) (by omega) hi
  omega
theorem below_zero {xs:Array Nat} (hr:Ris xs):SetTable.below xs 0=0:=by
 obtain ⟨h1,h2,h3⟩:=below_spec (j:=0) hr
 rcases Nat.eq_zero_or_pos (SetTable.below xs 0) with z | z
 ·exact z
 ·have:=h1 0 (by omega) z; omega
theorem ris_range (n:Nat):Ris (Array.range n):=fun a b h hb=>by simp; omega
theorem insert_get {xs:Array Nat} {p j:Nat} (hp:p<=xs.size):∀ i,(SetTable.insertAt xs p j)[i]?=if i<p then xs[i]? else if i=p then some j else xs[i - 1]?:=by
 intro i
 unfold SetTable.insertAt
 have hs1:((xs.extract 0 p).push j).size=p+1:=by simp; omega
 rw [Array.getElem?_append,hs1]
 by_cases h1:i<p+1
 ·rw [if_pos h1,Array.getElem?_push]
  have hs2:(xs.extract 0 p).size=p:=by simp; omega
  rw [hs2]
  by_cases h2:i=p
  ·rw [if_pos h2,if_neg (by omega),if_pos h2]
  ·rw [if_neg h2,if_pos (by omega)]
   rw [Array.getElem?_extract]
   simp
   omega
 ·rw [if_neg h1,if_neg (by omega),if_neg (by omega)]
  rw [Array.getElem?_extract]
  have e:p+(i - (p+1))=i - 1:=by omega
  rw [e]
  simp
  intro h
  omega
theorem insert_size {α:Type} {xs:Array α} {p:Nat} {j:α} (hp:p<=xs.size):(SetTable.insertAt xs p j).size=xs.size+1:=by
 unfold SetTable.insertAt
 simp
 omega
theorem ris_put {xs:Array Nat} {j:Nat} (hr:Ris xs) (hn:xs[SetTable.below xs j]?≠some j):Ris (SetTable.insertAt xs (SetTable.below xs j) j):=by
 obtain ⟨h1,h2,h3⟩:=below_spec (j:=j) hr
 generalize hk:SetTable.below xs j=k at h1 h2 h3 hn
 have g:=insert_get (xs:=xs) (j:=j) h3
 intro a b hab hb
 rw [insert_size h3] at hb
 have ga:=g a
 have gb:=g b
 have ha':a<(SetTable.insertAt xs k j).size:=by rw [insert_size h3]; omega
 have hb':b<(SetTable.insertAt xs k j).size:=by rw [insert_size h3]; omega
 rw [Array.getElem?_eq_getElem ha'] at ga
 rw [Array.getElem?_eq_getElem hb'] at gb
 have strict:∀ i (h:i<xs.size),k<=i->j<xs[i]:=fun i h hk'=>by
  have hle:=h2 i h hk'
  rcases Nat.lt_or_ge k i with z | z
  ·have hkz:k<xs.size:=by omega
   have:=hr k i z h
   have:=h2 k hkz (Nat.le_refl _)
   omega
  ·have e:i=k:=by omega
   subst e
   rw [Array.getElem?_eq_getElem h] at hn
   have:xs[i]≠j:=fun q=>hn (by rw [q])
   omega
 by_cases a1:a<k
 ·rw [if_pos a1,Array.getElem?_eq_getElem (by omega)] at ga
  have ga':=Option.some.inj ga
  by_cases b1:b<k
  ·rw [if_pos b1,Array.getElem?_eq_getElem (by omega)] at gb
   have gb':=Option.some.inj gb
   rw [ga',gb']
   exact hr a b hab (by omega)
  ·rw [if_neg b1] at gb
   by_cases b2:b=k
   ·rw [if_pos b2] at gb
    have gb':=Option.some.inj gb
    rw [ga',gb']
    exact h1 a (by omega) a1
   ·rw [if_neg b2,Array.getElem?_eq_getElem (by omega)] at gb
    have gb':=Option.some.inj gb
    rw [ga',gb']
    exact hr a (b - 1) (by omega) (by omega)
 ·rw [if_neg a1] at ga
  rw [if_neg (by omega),if_neg (by omega),Array.getElem?_eq_getElem (by omega)] at gb
  have gb':=Option.some.inj gb
  by_cases a2:a=k
  ·rw [if_pos a2] at ga
   have ga':=Option.some.inj ga
   rw [ga',gb']
   exact strict (b - 1) (by omega) (by omega)
  ·rw [if_neg a2,Array.getElem?_eq_getElem (by omega)] at ga
   have ga':=Option.some.inj ga
   rw [ga',gb']
   exact hr (a - 1) (b - 1) (by omega) (by omega)
structure TabI (t:SetTable) (n:Nat):Prop where
 size:t.place.size=n
 dum:t.dummies=#[]
 ris:Ris t.place
 room:n<=t.mask
theorem TabI.fits {t:SetTable} {n:Nat} (h:TabI t n):t.fits n=true:=by
 unfold SetTable.fits SetTable.fill
 rw [h.dum,h.size]
 simp
 exact h.room
theorem tab_fresh (f m:Nat) (led:Bool):TabI (SetTable.fresh f m led) 0:=⟨rfl,rfl,fun a b _ hb=>by simp [SetTable.fresh] at hb,Nat.zero_le _⟩
theorem tab_standIn (t:SetTable) (n:Nat):TabI (t.standIn n) n:=⟨by simp [SetTable.standIn],rfl,ris_range n,by simp [SetTable.standIn]; omega⟩
theorem has_nil (j:Nat):SetTable.has #[] j=false:=by simp [SetTable.has]
theorem tab_orStandIn {t:SetTable} {n:Nat} (hs:t.place.size=n) (hd:t.dummies=#[]) (hr:Ris t.place):TabI (t.orStandIn n) n:=by
 unfold SetTable.orStandIn
 split
 ·rename_i h
  refine ⟨hs,hd,hr, ?_⟩
  unfold SetTable.fits SetTable.fill at h
  rw [hd,hs] at h
  simpa using h
 ·exact tab_standIn t n
theorem probe_empty {t:SetTable} (hd:t.dummies=#[]) {f:Nat->Int} {h:Int} {j:Nat} {dm:Option Nat}:∀ (fuel:Nat) (p:SetTable.Probe),p.dummy=none->SetTable.probe.go t f h fuel p=some (.empty j dm)->dm=none/\t.place[SetTable.below t.place j]?≠some j
 | 0,p,_,e=>by simp [SetTable.probe.go] at e
 | fuel+1,p,hp,e=>by
  have adv:(t.advance p).dummy=none:=by
   unfold SetTable.advance
   split
   ·exact hp
   ·exact hp
  simp only [SetTable.probe.go] at e
  cases hs:t.slot p.j with
  | empty =>
   rw [hs] at e
   simp only [Option.some.injEq,SetTable.Met.empty.injEq] at e
   obtain ⟨e1,e2⟩:=e
   subst e1
   refine ⟨by rw [<-e2,hp],fun q=>?_⟩
   unfold SetTable.slot at hs
   simp [q] at hs
  | dummy =>
   exfalso
   unfold SetTable.slot at hs
   simp only [hd,has_nil] at hs
   split at hs <;> simp at hs
  | live i =>
   rw [hs] at e
   simp only at e
   split at e
   ·simp at e
   ·exact probe_empty hd fuel _ adv e
theorem tab_layNew {t:SetTable} {es:Array (Int × Value)} (h:TabI t es.size) (k:Int) (x:Value):TabI (layNew t es k x).2.1 (layNew t es k x).1.size:=by
 unfold layNew
 cases hf:t.freeSlot k with
 | none =>
  simp only
  have:(es.push (k,x)).size=es.size+1:=by simp
  rw [this]
  exact tab_standIn t _
 | some sw =>
  obtain ⟨slot,wd⟩:=sw
  simp only
  unfold SetTable.freeSlot at hf
  have hn:t.place[SetTable.below t.place slot]?≠some slot:=by
   cases hp:t.probe (fun _=>k+1) k (t.probeStart k) with
   | none=>rw [hp] at hf; simp at hf
   | some m =>
    rw [hp] at hf
    cases m with
    | candidate a b c=>simp at hf
    | empty j dm =>
     obtain ⟨e1,e2⟩:=probe_empty h.dum _ (t.probeStart k) rfl hp
     subst e1
     simp at hf
     rw [<-hf.1]
     exact e2
  obtain ⟨_,_,hb⟩:=below_spec (j:=slot) h.ris
  have hb':SetTable.below t.place slot<=es.size:=by rw [<-h.size]; exact hb
  have e1:(t.put slot).2=SetTable.below t.place slot:=rfl
  refine tab_orStandIn ?_ ?_ ?_
  ·rw [e1,insert_size hb']
   show (SetTable.insertAt t.place (SetTable.below t.place slot) slot).size=es.size+1
   rw [insert_size hb,h.size]
  ·show (if SetTable.has t.dummies slot then _ else t.dummies)=#[]
   rw [h.dum,has_nil]
   rfl
  ·exact ris_put h.ris hn
theorem layNew_led {t:SetTable} {es:Array (Int × Value)} (k:Int) (x:Value):(layNew t es k x).2.1.led=t.led:=by
 unfold layNew
 split
 ·simp only [SetTable.orStandIn]
  split <;> rfl
 ·rfl
theorem range_live (n:Nat) (g:Nat->Option Nat):((List.range n).filterMap fun j=>(g j).map (j, ·)).Pairwise fun a b=>a.1<b.1:=by
 rw [List.pairwise_filterMap]
 refine List.Pairwise.imp ?_ List.pairwise_lt_range
 intro a b hab c hc d hd
 cases ha:g a with
 | none=>rw [ha] at hc; simp at hc
 | some u =>
  cases hb:g b with
  | none=>rw [hb] at hd; simp at hd
  | some v =>
   rw [ha] at hc
   rw [hb] at hd
   simp at hc hd
   rw [<-hc, <-hd]
   exact hab
theorem tab_relayAll {t:SetTable} {es:Array (Int × Value)} (wanted:Nat):TabI (relayAll t es wanted).2.1 (relayAll t es wanted).1.size:=by
 unfold relayAll
 cases hr:t.relaid (es.map (·.1)) wanted with
 | none=>exact tab_standIn t _
 | some to =>
  obtain ⟨t',order⟩:=to
  simp only
  split
  ·rename_i hc
   unfold SetTable.relaid SetTable.laid at hr
   cases hl:SetTable.layClean (SetTable.sizeAbove wanted - 1) (es.map (·.1)) with
   | none=>rw [hl] at hr; simp at hr
   | some owner =>
    rw [hl] at hr
    simp at hr
    obtain ⟨h1,h2⟩:=hr
    have hfit:=(Bool.and_eq_true_iff.mp hc).2
    have hd:t'.dummies=#[]:=by rw [<-h1]
    refine ⟨?_,hd, ?_, ?_⟩
    ·unfold SetTable.fits at hfit
     simp at hfit
     exact hfit.1
    ·rw [<-h1]
     intro a b hab hb
     have hp:=range_live (SetTable.sizeAbove wanted - 1+1) (fun j=>owner[j]?.getD none)
     have hp2:(((List.range (SetTable.sizeAbove wanted - 1+1)).filterMap fun j=>(owner[j]?.getD none).map (j, ·)).map fun p=>p.1).Pairwise (· < ·):=List.pairwise_map.mpr hp
     simp only [List.getElem_toArray]
     exact List.pairwise_iff_getElem.mp hp2 a b _ _ hab
    ·unfold SetTable.fits SetTable.fill at hfit
     rw [hd] at hfit
     simp at hfit
     exact (hfit.1 ▸ hfit.2:_)
  ·exact tab_standIn t _
theorem relayAll_led {t:SetTable} {es:Array (Int × Value)} (wanted:Nat):(relayAll t es wanted).2.1.led=t.led:=by
 unfold relayAll
 cases hr:t.relaid (es.map (·.1)) wanted with
 | none=>rfl
 | some to =>
  obtain ⟨t',order⟩:=to
  simp only
  split
  ·unfold SetTable.relaid SetTable.laid at hr
   cases hl:SetTable.layClean (SetTable.sizeAbove wanted - 1) (es.map (·.1)) with
   | none=>rw [hl] at hr; simp at hr
   | some owner =>
    rw [hl] at hr
    simp at hr
    rw [<-hr.1]
  ·rfl
theorem paired_perm {α β:Type} {F:α->β->Prop} {l l':List β} (p:l'.Perm l):∀ {ks:List α},Paired F ks l->∃ ks',Paired F ks' l'/\ks'.Perm ks:=by
 induction p with
 | nil=>intro ks h; cases h; exact ⟨[],.nil,.nil⟩
 | cons x p ih =>
  intro ks h
  cases h with
  | cons r t =>
   obtain ⟨ks',h1,h2⟩:=ih t
   exact ⟨_::ks',.cons r h1,h2.cons _⟩
 | swap x y l =>
  intro ks h
  cases h with
  | cons r t =>
   cases t with
   | cons r' t'=>exact ⟨_::_::_,.cons r' (.cons r t'),.swap _ _ _⟩
 | trans p1 p2 ih1 ih2 =>
  intro ks h
  obtain ⟨k1,h1,h2⟩:=ih2 h
  obtain ⟨k2,h3,h4⟩:=ih1 h1
  exact ⟨k2,h3,h4.trans h2⟩
theorem paired_mem {α β:Type} {F:α->β->Prop}:∀ {ks:List α} {l:List β},Paired F ks l->∀ k∈ks,∃ e∈l,F k e
 | _,_,.nil,k,h=>by cases h
 | _,_,.cons r t,k,h=>by
  rcases List.mem_cons.mp h with z | z
  ·subst z; exact ⟨_,List.mem_cons_self,r⟩
  ·obtain ⟨e,h1,h2⟩:=paired_mem t k z
   exact ⟨e,List.mem_cons_of_mem _ h1,h2⟩
theorem paired_mem' {α β:Type} {F:α->β->Prop}:∀ {ks:List α} {l:List β},Paired F ks l->∀ e∈l,∃ k∈ks,F k e
 | _,_,.nil,k,h=>by cases h
 | _,_,.cons r t,k,h=>by
  rcases List.mem_cons.mp h with z | z
  ·subst z; exact ⟨_,List.mem_cons_self,r⟩
  ·obtain ⟨e,h1,h2⟩:=paired_mem' t k z
   exact ⟨e,List.mem_cons_of_mem _ h1,h2⟩
section
variable {prog:Program} {w:World} {K:Type} [DecidableEq K] (knd:KeyKind prog w K)
structure SetO (o:Obj) (ks:List K):Prop where
 ex:o.ExactSet
 dat:∃ es ep t,o.data=.set es ep t/\ElemsOf knd es.toList/\Paired (fun k (e:Int × Value)=>knd.is k e.2=true) ks es.toList/\es.size<scanBound/\TabI t es.size/\t.led=!(w.params.followText "set-order")
 nd:ks.Nodup
def SetG (h:Heap) (a:Addr) (ks:List K):Prop:=∃ o,h.get? a=some o/\SetO knd o ks
variable {knd} {A:Around} {E:Value->Shared->Prop} {s:Shared} {a:Addr}
theorem SetO.len {o:Obj} {ks:List K} (h:SetO knd o ks):ks.length<scanBound:=by
 obtain ⟨es,ep,t,_,_,p,b,_⟩:=h.dat
 rw [p.length,Array.length_toList]
 exact b
theorem store_back {o:Obj} {es es':Array (Int × Value)} {ep:Nat} {t t':SetTable} {ks':List K} {h:Heap} (ho:h.get? a=some o) (hex:o.ExactSet) (hd:o.data=.set es ep t) (el:ElemsOf knd es'.toList)
  (pr:Paired (fun k (e:Int × Value)=>knd.is k e.2=true) ks' es'.toList) (hb:es'.size<scanBound) (ti:TabI t' es'.size) (hl:t'.led=!(w.params.followText "set-order")) (nd:ks'.Nodup) :
  (h.update a (Obj.putSet es' t')).get? a=some { o with data:=.set es' (ep+1) t' }/\SetO knd { o with data:=.set es' (ep+1) t' } ks':=by
 have mem:∀ k',(decide (k'∈ks'))=true ↔ ∃ e∈es'.toList,knd.is k' e.2=true:=fun k'=>by
  rw [decide_eq_true_eq]
  constructor
  ·exact fun hk=>paired_mem pr k' hk
  ·rintro ⟨e,he,hq⟩
   obtain ⟨k2,h1,h2⟩:=paired_mem' pr e he
   rw [knd.inj e.2 k' k2 hq h2]
   exact h1
 obtain ⟨e1,o2,es2,ep2,t2,e2,ex2,d2,_⟩:=SetOf_store (knd:=knd) ho hex hd el mem hb ti.fits
 rw [e1] at e2
 cases e2
 exact ⟨e1,⟨ex2,⟨es',ep+1,t',rfl,el,pr,hb,ti,hl⟩,nd⟩⟩
theorem set_add {ks:List K} {k:K} {x:Value} {Q:Bool->Shared->Prop} (hkey:knd.is k x=true) (hsc:x.scannable=true) (hS:SetG knd s.heap a ks) (hroom:ks.length+1<scanBound)
  (h:∀ h' ks',Heap.SameBut a s.heap h'->SetG knd h' a ks'->ks'.Perm (if k∈ks then ks else ks++[k])->Q (!decide (k∈ks)) { s with heap:=h' }) :
  wpAny (model prog w) A (setAddHashed a x (knd.hash k)) Q E s:=by
 obtain ⟨o,ho,S⟩:=hS
 obtain ⟨es,ep,t,hd,hel,pr,hb,ti,hled⟩:=S.dat
 have hlen:ks.length=es.size:=by rw [pr.length,Array.length_toList]
 unfold setAddHashed setAddHashedIn
 refine wpAny_holding (wpAny_bind (wpAny_setState_of ho hd ti.fits ?_))
 dsimp only
 rw [byScan_of hsc hb hel]
 simp only [↓reduceIte]
 unfold setAddByScan
 refine wpAny_bind (wpAny_bind (wpAny_rule (wpAny_bind (wpAny_setScan_of hkey ho hd ti.fits hel ?_))))
 cases hr:List.findIdx? (fun e=>knd.is k e.2) es.toList with
 | some j =>
  dsimp only
  obtain ⟨hj,hpj,_⟩:=List.findIdx?_eq_some_iff_getElem.mp hr
  have hk:k∈ks:=by
   obtain ⟨k2,h1,h2⟩:=paired_mem' pr _ (List.getElem_mem hj)
   rw [knd.inj _ k k2 hpj h2]
   exact h1
  have q:=h s.heap ks (Heap.SameBut.refl a s.heap) ⟨o,ho,S⟩ (by rw [if_pos hk])
  rw [decide_eq_true hk] at q
  exact wpAny_pure (wpAny_pure q)
 | none =>
  dsimp only
  have hk:k ∉ ks:=fun hm=>by
   obtain ⟨e,he,hq⟩:=paired_mem pr k hm
   have z:=List.findIdx?_eq_none_iff.mp hr e he
   rw [hq] at z
   cases z
  have gw:∀ (b:Bool) {s₁:Shared} {Q':Unit->Shared->Prop},Q' () s₁->wpAny (model prog w) A (match b with | true=>rule "set.scan.the-table-gave-way" | false=>pure ()) Q' E s₁ :=
   fun b s₁ Q' hq=>by cases b <;> first | exact wpAny_pure hq | exact wpAny_rule hq
  have perm0:=layNew_perm t es (knd.hash k) x
  have tab1:=tab_layNew (t:=t) ti (knd.hash k) x
  have led1:=layNew_led (t:=t) (es:=es) (knd.hash k) x
  generalize hL:layNew t es (knd.hash k) x=L at perm0 tab1 led1 ⊢
  obtain ⟨es1,t1,wasDummy,gave⟩:=L
  dsimp only at perm0 tab1 led1 ⊢
  rw [Array.toList_push] at perm0
  have el1:ElemsOf knd es1.toList:=(hel.push hkey hsc).perm perm0
  have pr0:Paired (fun k (e:Int × Value)=>knd.is k e.2=true) (ks++[k]) (es.toList++[(knd.hash k,x)]):=Paired.snoc pr hkey
  obtain ⟨ks1,pr1,pk1⟩:=paired_perm perm0 pr0
  have nd1:ks1.Nodup:=pk1.nodup_iff.mpr (List.nodup_append.mpr ⟨S.nd,List.nodup_cons.mpr ⟨by simp,List.nodup_nil⟩,fun u hu v hv=>by
   rw [List.mem_singleton.mp hv]; exact fun z=>hk (z ▸ hu)⟩)
  have sz1:es1.size=es.size+1:=by
   have:=perm0.length_eq
   rw [List.length_append,Array.length_toList,Array.length_toList] at this
   simpa using this
  have hb1:es1.size<scanBound:=by omega
  refine wpAny_bind (gw _ ?_)
  have tailOk:∀ t2:SetTable,TabI t2 es1.size->t2.led=t.led->wpAny (model prog w) A (do
    storeSet a es1 t2
    if (!wasDummy && t2.tooFull)=true then do
      (match (relayAll t2 es1 (SetTable.grown es1.size)).2.2 with | true=>rule "set.scan.the-table-gave-way" | false=>pure ())
      storeSet a (relayAll t2 es1 (SetTable.grown es1.size)).1 (relayAll t2 es1 (SetTable.grown es1.size)).2.1
      pure (some true)
     else pure (some true)) (fun b s'=>b=some true/\∃ h' ks',s'={ s with heap:=h' }/\Heap.SameBut a s.heap h'/\SetG knd h' a ks'/\ks'.Perm (ks++[k])) E s:=by
   intro t2 ti2 hl2
   refine wpAny_bind (wpAny_storeSet_of ho hd ?_ (fits_of_scanBound hb1))
   obtain ⟨g1,S1⟩:=store_back (knd:=knd) ho S.ex hd el1 pr1 hb1 ti2 (hl2.trans hled) nd1
   have sb1:=Heap.SameBut.update s.heap a (Obj.putSet es1 t2)
   split
   ·have hp:=relayAll_perm t2 es1 (SetTable.grown es1.size)
    have ti3:=tab_relayAll (t:=t2) (es:=es1) (SetTable.grown es1.size)
    have led3:=relayAll_led (t:=t2) (es:=es1) (SetTable.grown es1.size)
    generalize relayAll t2 es1 (SetTable.grown es1.size)=Rl at hp ti3 led3 ⊢
    obtain ⟨es2,t3,gave2⟩:=Rl
    dsimp only at hp ti3 led3 ⊢
    obtain ⟨ks2,pr2,pk2⟩:=paired_perm hp pr1
    have sz2:es2.size=es1.size:=by
     have:=hp.length_eq
     rwa [Array.length_toList,Array.length_toList] at this
    have hb2:es2.size<scanBound:=by omega
    refine wpAny_bind (gw _ ?_)
    refine wpAny_bind (wpAny_storeSet_of g1 rfl ?_ (fits_of_scanBound hb2))
    obtain ⟨g2,S2⟩:=store_back (knd:=knd) g1 S1.ex rfl (el1.perm hp) pr2 hb2 ti3 (led3.trans (hl2.trans hled)) (pk2.nodup_iff.mpr nd1)
    exact wpAny_pure ⟨rfl,_,ks2,rfl,sb1.trans (Heap.SameBut.update _ a _),⟨_,g2,S2⟩,pk2.trans pk1⟩
   ·exact wpAny_pure ⟨rfl,_,ks1,rfl,sb1,⟨_,g1,S1⟩,pk1⟩
  have fin:∀ b s',(b=some true/\∃ h' ks',s'={ s with heap:=h' }/\Heap.SameBut a s.heap h'/\SetG knd h' a ks'/\ks'.Perm (ks++[k])) ->
    wpAny (model prog w) A (match b with | some added=>pure added | none=>setAddHashedIn a x (knd.hash k) 99999) Q E s':=by
   rintro b s' ⟨rfl,h',ks',rfl,sb,g,pk⟩
   have q:=h h' ks' sb g (by rw [if_neg hk]; exact pk)
   rw [decide_eq_false hk] at q
   exact wpAny_pure q
  split
  ·refine wpAny_bind ?_
   rw [hashByValue_scannable 8 hsc]
   refine wpAny_pure ?_
   refine wpAny_mono (tailOk _ ?_ ?_) fin fun _ _ z=>z
   ·split
    ·exact tab1
    ·exact ⟨tab1.size,tab1.dum,tab1.ris,tab1.room⟩
   ·split
    ·exact led1
    ·exact led1
  ·refine wpAny_bind (wpAny_pure ?_)
   simp only [↓reduceIte]
   exact wpAny_mono (tailOk _ tab1 led1) fin fun _ _ z=>z
end
end SetM
namespace SetM
open PySem PyProof.Rows
section
variable {prog:Program} {w:World} {K:Type} [DecidableEq K] {knd:KeyKind prog w K}
theorem SetG.at' {h h':Heap} {a:Addr} {ks:List K} (x:SetG knd h a ks) (e:∀ o,h.get? a=some o->h'.get? a=some o):SetG knd h' a ks:=let ⟨o,ho,S⟩:=x; ⟨o,e o ho,S⟩
structure Upto (val:Nat->K) (i:Nat) (ks:List K):Prop where
 mem:∀ x,x∈ks ↔ ∃ j,j<i/\val j=x
 len:ks.length<=i
theorem Upto.zero (val:Nat->K):Upto val 0 []:=⟨fun x=>⟨fun z=>absurd z List.not_mem_nil,fun ⟨j,z,_⟩=>absurd z (Nat.not_lt_zero _)⟩,Nat.le_refl _⟩
theorem Upto.next {val:Nat->K} {i:Nat} {ks ks':List K} (u:Upto val i ks) (pk:ks'.Perm (if val i∈ks then ks else ks++[val i])):Upto val (i+1) ks':=by
 refine ⟨fun x=>?_, ?_⟩
 ·rw [pk.mem_iff]
  constructor
  ·intro hx
   have hx':x∈ks\/x=val i:=by
    split at hx
    ·exact .inl hx
    ·rcases List.mem_append.mp hx with hx | hx
     ·exact .inl hx
     ·exact .inr (List.mem_singleton.mp hx)
   rcases hx' with hx' | hx'
   ·obtain ⟨j,h1,h2⟩:=(u.mem x).mp hx'
    exact ⟨j,by omega,h2⟩
   ·exact ⟨i,by omega,hx'.symm⟩
  ·rintro ⟨j,h1,h2⟩
   by_cases hx:x∈ks
   ·split
    ·exact hx
    ·exact List.mem_append_left _ hx
   ·have e:j=i:=by
     rcases Nat.lt_or_ge j i with z | z
     ·exact absurd ((u.mem x).mpr ⟨j,z,h2⟩) hx
     ·omega
    subst e
    rw [h2,if_neg hx]
    exact List.mem_append_right _ (List.mem_singleton_self _)
 ·rw [pk.length_eq]
  have:=u.len
  split
  ·omega
  ·simp only [List.length_append,List.length_singleton]
   omega
variable {A:Around} {R:Result->Shared->Prop} {I:Addr} {fp wr:List Addr} {G:Array GenState->Array GenState->Prop} {n:Nat} {P:Nat->Value->Prop} {St:Nat->Shared->Prop}
theorem fill_loop (W:WalksS prog w A.in1 I fp wr G n P St) {a:Addr} (na:a ∉ fp) {val:Nat->K} (hval:∀ i v,P i v->knd.is (val i) v=true/\v.scannable=true) (hb:n+1<scanBound) (i:Nat) (s:Shared) (ks:List K)
  (hi:i<=n) (st:St i s) (hS:SetG knd s.heap a ks) (u:Upto val i ks) (fin:∀ s' ks',Moved (a::wr) G s s'->SetG knd s'.heap a ks'->Upto val n ks'->R (.ok (.ret .none)) s') :
  codeAny (model prog w) A (.builtin "set.update.loop" ⟨[.ref a,.ref I],[]⟩) R s:=by
 have naw:a ∉ wr:=fun z=>na (W.sub _ z)
 have more:∀ b∈wr,b∈a::wr:=fun b z=>List.mem_cons_of_mem _ z
 refine codeAny_builtin PyProof.Rows.F.entry_set_update_loop ?_
 rw [Around.under_plainId PyProof.Rows.F.plain_set_update_loop]
 refine wpAny_bind (m:=pyNext (.ref I)) ?_
 by_cases hlt:i<n
 ·refine W.item i s _ _ hlt st fun v s1 hP st1 mv=>?_
  obtain ⟨hv,hsc⟩:=hval i v hP
  have hS1:SetG knd s1.heap a ks:=hS.at' fun o e=>mv.heap a o naw e
  refine wpAny_bind (m:=holding [v] (setAdd a v)) (wpAny_holding ?_)
  unfold setAdd
  refine wpAny_holding (wpAny_bind (knd.pyHash (k:=val i) hv ?_))
  have:=u.len
  refine set_add (knd:=knd) (s:={ s1 with toks:=s1.toks+1 }) hv hsc hS1 (by omega) fun h2 ks2 sb hS2 pk=>wpAny_pure ⟨plainId_quiet PyProof.Rows.F.plain_set_update_loop _, ?_⟩
  refine fill_loop W na hval hb (i+1) { s1 with heap:=h2,toks:=s1.toks+1 } ks2 hlt (W.frame _ s1 _ _ st1 (Nat.le_succ _) fun b hb' o e=>?_) hS2 (u.next pk) fun s3 ks3 mv3 hS3 u3=>?_
  ·rw [sb.2 b fun z=>na (z ▸ hb')]
   exact e
  ·refine fin s3 ks3 (Moved.trans W.gtrans ((mv.mono more).then_heap (Nat.le_succ _) fun b o hb' e=>?_) mv3) hS3 u3
   rw [sb.2 b fun z=>hb' (z ▸ List.mem_cons_self)]
   exact e
 ·have e:i=n:=by omega
  subst e
  exact W.done s _ _ st fun s1 mv=>wpAny_pure (fin s1 ks (mv.mono more) (hS.at' fun o e=>mv.heap a o naw e) u)
termination_by n - i
end
section
variable {prog:Program} {w:World} {A:Around} {E:Value->Shared->Prop} {s:Shared}
theorem call_class {T newId initId:String} {args:List Value} {Q:Value->Shared->Prop} (ft:TypeCalled T newId initId) (hct:checkTypeCall T ⟨args,[]⟩=pure ())
  (h:codeAny (model prog w) A.in1 (.call (.builtin newId) ⟨.type T::args,[]⟩) (wants (fun obj s1=>s1.TypeIs obj T/\codeAny (model prog w) A.in1 (.call (.builtin initId) ⟨obj::args,[]⟩) (wants (fun r s2=>r=.none/\Q obj s2) E) s1) E) s) :
  wpAny (model prog w) A (call (.type T) args) Q E s:=by
 have q1:=ft.notType
 have q2:=ft.canCreate
 have q3:=ft.made
 have q4:=ft.sub
 obtain ⟨c,tl,q5⟩:=ft.mro
 apply wpAny_call
 apply codeAny_of_tree
 change wpAny (model prog w) _ (callAny (Value.type T) ⟨args,[]⟩) _ _ s
 refine wpAny_pure (And.intro (Code.quiet_builtin _ (by decide +kernel)) (codeAny_builtin PySem.F.entry_type_call ?_))
 rw [Around.under_plain (weight_type_call_type T args []) (units_type_call_type T args [])]
 repeat (any_goals (first | assumption | wp_step))
 refine codeAny_mono h fun r s1 hr=>?_
 rcases r with e | fl
 ·exact hr
 ·cases fl with
  | ret obj =>
   obtain ⟨hT,hI⟩:=hr
   have q6:=ft.init.lookup
   have q7:=ft.init.bind obj
   repeat (any_goals (first | assumption | wp_step))
   refine codeAny_mono hI fun r2 s2 hr2=>?_
   rcases r2 with e2 | fl2
   ·exact hr2
   ·cases fl2 with
    | ret r3 =>
     obtain ⟨rfl,q⟩:=hr2
     repeat (any_goals (first | assumption | wp_step))
    | _=>exact hr2.elim
  | _=>exact hr.elim
abbrev setObj (b:Bool):Obj:={ cls:=.type "set",dict:=none,data:=.set #[] 0 (.fresh 0 0 b) }
theorem new_set (x:Value) {Q1:Value->Shared->Prop} (h:Q1 (.ref s.heap.objs.size) { s with heap:=s.heap.push (setObj (!(w.params.followText "set-order"))) }) :
  codeAny (model prog w) A (.call (.builtin "set.__new__") ⟨[.type "set",x],[]⟩) (wants Q1 E) s:=by
 have q:=sub_set_self
 refine codeAny_call_builtin PySem.F.plain_set_new PySem.F.entry_set_new (wpAny_of_eq (PySem.F.newCall_set_1 x) ?_)
 unfold Builtin.«set.__new__» Builtin.Frozenset.newClass
 obtain ⟨hp,gs,dr,tk,so⟩:=s
 dsimp only
 wp_walk
 refine wpAny_askSetting (wpAny_pure ?_)
 dsimp only
 simp only [newObj]
 exact wpAny_bind (wpAny_alloc (wpAny_pure (wpAny_pure h)))
variable {K:Type} [DecidableEq K] {knd:KeyKind prog w K}
set_option maxHeartbeats 4000000 in
theorem call_set {l:Addr} {xs:Array Value} {val:Nat->K} {Q:Value->Shared->Prop} (hh:A.handled=none) (hl:s.heap.IsList l xs) (hx:∀ i v,xs[i]?=some v->knd.is (val i) v=true/\v.scannable=true) (hb:xs.size+1<scanBound)
  (fin:∀ (h1:Heap) (tk:Nat) (ks:List K),SetG knd h1 s.heap.objs.size ks->Upto val xs.size ks->(∀ b o,s.heap.get? b=some o->h1.get? b=some o)->Q (.ref s.heap.objs.size) { s with heap:=h1,toks:=tk }) :
  wpAny (model prog w) A (call (.type "set") [.ref l]) Q E s:=by
 refine call_class PySem.F.called_set (PySem.F.typeCall_set_1 (.ref l)) (new_set (.ref l) ?_)
 generalize hb0:(!(w.params.followText "set-order"))=b0
 have at0:(s.heap.push (setObj b0)).get? s.heap.objs.size=some (setObj b0):=Heap.get?_push_size _ rfl
 have ty0:Shared.TypeIs { s with heap:=s.heap.push (setObj b0) } (.ref s.heap.objs.size) "set" := ⟨_,at0,rfl⟩
 refine ⟨ty0,codeAny_call_builtin PySem.F.called_set.init.plain PySem.F.entry_set_init (check_set_init_1 ty0 ?_)⟩
 obtain ⟨⟨c0,d0,dt0,sl0⟩,e0,hc0,n0,hd0⟩:=hl
 simp only at hc0 hd0
 subst hc0 hd0
 have e1:(s.heap.push (setObj b0)).get? l=some ⟨.type "list",d0,.seq xs n0,sl0⟩:=Heap.get?_push_of_some _ e0
 have li:(s.heap.push (setObj b0)).IsList l xs:=⟨_,e1,rfl,n0,rfl⟩
 have u1:=PySem.F.sub_list_set
 have u2:=PySem.F.sub_list_frozenset
 have u3:(Value.type "list" == Value.type "dict")=false:=by decide
 unfold Builtin.«set.__init__» noKeywords Builtin.Frozenset.updateFrom
 generalize hit:pyIter=it
 wp_walk
 subst hit
 have lt0:l<s.heap.objs.size:=Heap.lt_size e0
 have sz:(s.heap.push (setObj b0)).objs.size=s.heap.objs.size+1:=Heap.size_push _ _
 refine wpAny_pyIter_list li (wpAny_bind (wpAny_runValue ?_))
 refine fill_loop (knd:=knd) (val:=val) ((Walks.list (by simp [hh]) _ l (by rw [sz]; exact Nat.ne_of_lt (Nat.lt_succ_of_lt lt0)) xs).toS) (fun z=>(List.mem_cons.mp z).elim (fun z=>absurd z (Nat.ne_of_lt (by rw [sz]; exact Nat.lt_succ_self _))) fun z=>absurd (List.mem_singleton.mp z) (Nat.ne_of_gt lt0)) hx hb 0 _ [] (Nat.zero_le _) ⟨⟨_,Heap.get?_push_size _ rfl,rfl,rfl⟩,li.push _⟩
  ⟨_,Heap.get?_push_of_some _ at0,⟨⟨rfl,rfl,rfl⟩,⟨#[],0,_,rfl,fun e he=>by simp at he,.nil,by unfold scanBound; decide,tab_fresh _ _ _,hb0.symm⟩,List.nodup_nil⟩⟩ (Upto.zero val) ?_
 rintro ⟨h2,g2,d2,tk2,o2⟩ ks mv S2 u
 have x1:g2=s.gens:=mv.gens
 have x2:d2=s.drawn:=mv.drawn
 have x3:o2=s.os:=mv.os
 subst x1 x2 x3
 refine wpAny_pure (wpAny_pure ⟨rfl,fin h2 tk2 ks S2 u fun b o e=>mv.heap b o ?_ (Heap.get?_push_of_some _ (Heap.get?_push_of_some _ e))⟩)
 have lb:=Heap.lt_size e
 intro z
 rcases List.mem_cons.mp z with z | z
 ·exact absurd z (Nat.ne_of_lt lb)
 ·have z:=List.mem_singleton.mp z
  rw [sz] at z
  exact absurd z (Nat.ne_of_lt (Nat.lt_succ_of_lt lb))
end
theorem si_next:Slot "set_iterator" "__next__" "set_iterator.__next__" :=
 Slot.of (owner:="set_iterator") (n:="__next__") (by rw [typeLookup_type,builtinLookup_eq_fast]; kernel_rfl) (by decide +kernel) (by decide +kernel) (by decide +kernel) (.inl (by decide +kernel)) (by rw [isSubtype_type]; kernel_rfl)
theorem si_entry:entryFor table "set_iterator.__next__" = some Builtin.«set_iterator.__next__»:=entryFor_of_tree (by kernel_rfl)
theorem si_args (a:Value):argsOk "set_iterator.__next__" ⟨[a],[]⟩:=by unfold argsOk; kernel_rfl
theorem set_iter_entry:entryFor table "set.__iter__" = some Builtin.«frozenset.__iter__»:=entryFor_alias (id':="frozenset.__iter__") (by kernel_rfl) rfl (by decide +kernel) (by kernel_rfl)
theorem erase_perm {α:Type}:∀ (l:List α) (i:Nat) (h:i<l.length),(l[i]::l.eraseIdx i).Perm l
 | x::l,0,h=>.refl _
 | x::l,i+1,h=>by
  have ih:=erase_perm l i (by simpa using h)
  simp only [List.getElem_cons_succ,List.eraseIdx_cons_succ]
  exact (List.Perm.swap _ _ _).trans (ih.cons x)
theorem drawOrder_ok {prog:Program} {w:World} {A:Around} {E:Value->Shared->Prop} {α:Type}:∀ (n:Nat) (xs:List α) (s:Shared) (Q:List α->Shared->Prop),xs.length=n->(∀ ys d,ys.Perm xs->Q ys { s with drawn:=d })->wpAny (model prog w) A (drawOrder n xs) Q E s
 | 0,xs,s,Q,hn,h=>by
  have e:xs=[]:=List.length_eq_zero_iff.mp hn
  subst e
  have q:=h [] s.drawn .nil
  exact wpAny_pure q
 | n+1,xs,s,Q,hn,h=>by
  cases xs with
  | nil=>simp at hn
  | cons x0 xr =>
   generalize hx:x0::xr=xs at hn h ⊢
   have e:drawOrder (n+1) xs=(choose .order xs.length >>= fun i=>match xs[i]? with | some x=>(drawOrder n (xs.eraseIdx i) >>= fun r=>pure (x::r)) | none=>unsupported "internal:drawOrder"):=by
    subst hx; rfl
   rw [e]
   refine wpAny_bind ?_
   intro Γ p hΓ
   show Sem.wp _ _ (.choose _ _ _) _ _ _ _
   rw [Sem.wp_choose]
   refine ⟨by omega, ?_⟩
   have lt:=Nat.mod_lt ((model prog w).w.draws .order (s.drawn.get .order)) (show xs.length>0 by omega)
   generalize (model prog w).w.draws .order (s.drawn.get .order) % xs.length=i at lt ⊢
   rw [Sem.wp_pure]
   have ex:xs[i]?=some xs[i]:=List.getElem?_eq_getElem lt
   dsimp only
   rw [ex]
   refine wpAny_bind (drawOrder_ok n (xs.eraseIdx i) _ _ (by rw [List.length_eraseIdx_of_lt lt]; omega) fun ys d hp=>wpAny_pure (h _ _ ((hp.cons _).trans (erase_perm xs i lt))))
inductive Fst (w:World) (a:Addr) (es:Array (Int × Value)) (ep:Nat) (t:SetTable) (h:Heap):Nat->Value->List Value->Prop where
 | byText {i:Nat} {k:Int} {tk:Tok}:w.params.followText "set-order" = true->Fst w a es ep t h i (.int k tk) ((pickOrder (w.params.setOrder a ep) es).toList.map (·.2))
 | drawn {i:Nat} {T:Addr} {c:Nat} {ps:List Nat}:ps.Perm (List.range es.size)->h.get? T=some { cls:=.type "tuple",data:=.seq (ps.map fun (p:Nat)=>rawInt p).toArray c } ->
   Fst w a es ep t h i (.ref T) (ps.map fun p=>(es.getD p (0,.none)).2)
 | plain {i:Nat} {tk:Tok}:w.params.followText "set-order" = false->(!t.plain && es.size>1)=false->t.led=true->Fst w a es ep t h i (.int (if i=0 then 0 else ((t.place.getD (i - 1) 0+1:Nat):Int)) tk) (es.toList.map (·.2))
abbrev itObj (first:Value) (i:Nat) (a:Addr) (n ep:Nat):Obj:={ cls:=.type "set_iterator",data:=.fields #[first,rawInt i,.ref a,rawInt n,rawInt ep] }
section
variable {prog:Program} {w:World} {A:Around} {E:Value->Shared->Prop} {s:Shared} {a:Addr} {o:Obj} {es:Array (Int × Value)} {ep:Nat} {t:SetTable}
theorem iter_set {Q:Value->Shared->Prop} (ho:s.heap.get? a=some o) (hex:o.ExactSet) (hd:o.data=.set es ep t) (ti:TabI t es.size) (hl:t.led=!(w.params.followText "set-order")) (hb:es.size<scanBound)
  (fin:∀ I first h1 d vs,(∀ b ob,s.heap.get? b=some ob->h1.get? b=some ob)->s.heap.objs.size<=I->h1.get? I=some (itObj first 0 a es.size ep)->(∀ T,first=.ref T->T≠I/\s.heap.objs.size<=T)->Fst w a es ep t h1 0 first vs->Q (.ref I) { s with heap:=h1,drawn:=d }) :
  wpAny (model prog w) A (pyIter (.ref a)) Q E s:=by
 have hT:s.TypeIs (.ref a) "set" := ⟨o,ho,hex.1⟩
 refine wpAny_pyIter_slot hT PySem.F.slot_set_iter (wpAny_call_entry PySem.F.slot_set_iter hT set_iter_entry ?_ (PySem.F.args_set_iter_1 _))
 unfold Builtin.«frozenset.__iter__» Builtin.Frozenset.slot0 slotArgs
 simp only [List.isEmpty_nil,Bool.not_true,Bool.false_eq_true, ↓reduceIte,bind_assoc,List.length_nil,bne_self_eq_false]
 unfold Builtin.Frozenset.addrOf Builtin.Frozenset.sizeOf
 refine wpAny_bind (wpAny_pure ?_)
 dsimp only
 refine wpAny_bind (wpAny_pure ?_)
 refine wpAny_bind (wpAny_bind (wpAny_setEntries_of ho hd ti.fits (wpAny_pure ?_)))
 unfold setDrawn setsByText
 refine wpAny_bind (wpAny_bind (wpAny_setState_of ho hd ti.fits ?_))
 dsimp only
 refine wpAny_bind (wpAny_bind (wpAny_askSetting (wpAny_pure (wpAny_pure ?_))))
 dsimp only
 have eEp:∀ (s1:Shared) {Q1:Nat->Shared->Prop},s1.heap.get? a=some o->Q1 ep s1->wpAny (model prog w) A.in1 (setEpoch a) Q1 E s1:=fun s1 Q1 e q=>wpAny_setEpoch_of e hd ti.fits q
 split
 ·rename_i hdr
  refine wpAny_bind (drawOrder_ok _ _ _ _ (List.length_range) fun ps d hp=>?_)
  refine wpAny_bind (wpAny_newTuple ?_ (by rw [List.length_map,hp.length_eq,List.length_range]; exact fits_of_scanBound hb))
  refine wpAny_bind (eEp _ (Heap.get?_push_of_some _ ho) ?_)
  refine wpAny_bind (wpAny_newObj_type (wpAny_pure ⟨_,rfl,"set_iterator",_,⟨_,Heap.get?_push_size _ rfl,rfl⟩,si_next.lookup, ?_⟩))
  refine fin _ (.ref s.heap.objs.size) _ d _ (fun b ob e=>Heap.get?_push_of_some _ (Heap.get?_push_of_some _ e)) ?_ (Heap.get?_push_size _ rfl) ?_ (.drawn hp (Heap.get?_push_of_some _ (Heap.get?_push_size _ rfl)))
  ·rw [Heap.size_push]; exact Nat.le_succ _
  ·rintro T e
   cases e
   exact ⟨by rw [Heap.size_push]; exact Nat.ne_of_lt (Nat.lt_succ_self _),Nat.le_refl _⟩
 ·rename_i hdr
  refine wpAny_bind (wpAny_pure (wpAny_bind (eEp _ ho ?_)))
  refine wpAny_bind (wpAny_newObj_type (wpAny_pure ⟨_,rfl,"set_iterator",_,⟨_,Heap.get?_push_size _ rfl,rfl⟩,si_next.lookup, ?_⟩))
  have old:∀ b ob,s.heap.get? b=some ob->(s.heap.push (itObj (rawInt 0) 0 a es.size ep)).get? b=some ob:=fun b ob e=>Heap.get?_push_of_some _ e
  cases hbt:w.params.followText "set-order" with
  | true=>exact fin s.heap.objs.size (rawInt 0) _ s.drawn _ old (Nat.le_refl _) (Heap.get?_push_size _ rfl) (fun T e=>by cases e) (.byText hbt)
  | false =>
   have h1:(!t.plain && decide (es.size>1))=false:=by
    have h2:¬ (!false && (!t.plain && decide (es.size>1)))=true:=by rw [<-hbt]; exact hdr
    simpa using h2
   exact fin s.heap.objs.size (rawInt 0) _ s.drawn _ old (Nat.le_refl _) (Heap.get?_push_size _ rfl) (fun T e=>by cases e) (.plain hbt h1 (by rw [hl,hbt]; rfl))
end
theorem pick_go {α:Type} (nx:Nat->Nat):∀ (fuel k:Nat) (left:List α) (out:Array α),left.length<=fuel->(pickOrder.go nx fuel k left out).toList.Perm (out.toList++left)
 | 0,k,left,out,h=>by
  have e:left=[]:=List.length_eq_zero_iff.mp (by omega)
  subst e
  simp [pickOrder.go]
 | fuel+1,k,left,out,h=>by
  simp only [pickOrder.go]
  cases left with
  | nil=>simp
  | cons x0 xr =>
   generalize hx:x0::xr=l at h ⊢
   have lt:nx k % l.length<l.length:=Nat.mod_lt _ (by rw [<-hx]; simp)
   rw [List.getElem?_eq_getElem lt]
   dsimp only
   refine (pick_go nx fuel (k+1) _ _ (by rw [List.length_eraseIdx_of_lt lt]; omega)).trans ?_
   rw [Array.toList_push,List.append_assoc]
   exact List.Perm.append_left _ (erase_perm l _ lt)
theorem pick_perm {α:Type} (nx:Nat->Nat) (xs:Array α):(pickOrder nx xs).toList.Perm xs.toList:=by
 have q:=pick_go nx xs.size 0 xs.toList #[] (by simp)
 exact q
theorem range_items (es:Array (Int × Value)):(List.range es.size).map (fun p=>(es.getD p (0,.none)).2)=es.toList.map (·.2):=by
 apply List.ext_getElem
 ·simp
 ·intro i h1 h2
  have h3:i<es.size:=by simpa using h1
  simp [h3]
section
variable {w:World} {a:Addr} {es:Array (Int × Value)} {ep:Nat} {t:SetTable} {h:Heap} {i:Nat} {first:Value} {vs:List Value}
theorem Fst.perm (F:Fst w a es ep t h i first vs):vs.Perm (es.toList.map (·.2)):=by
 cases F with
 | byText _=>exact (pick_perm _ _).map _
 | drawn hp _=>rw [<-range_items]; exact hp.map _
 | plain _ _ _=>exact .refl _
end
section
variable {prog:Program} {w:World} {A:Around} {E:Value->Shared->Prop} {s:Shared} {a I:Addr} {o:Obj} {es:Array (Int × Value)} {ep:Nat} {t:SetTable} {i:Nat} {first:Value} {vs:List Value}
theorem below_at {xs:Array Nat} (hr:Ris xs) {i:Nat} (hi:i<=xs.size):SetTable.below xs (if i=0 then (0:Int) else ((xs.getD (i - 1) 0+1:Nat):Int)).toNat=i:=by
 by_cases h:i=0
 ·subst h
  rw [if_pos rfl]
  exact below_zero hr
 ·rw [if_neg h,Int.toNat_natCast,getD_in (by omega),below_next hr (by omega)]
  omega
theorem it_put {h:Heap} {n:Nat} {x0 x1 x2 x3 x4:Value} (k:Nat) (v:Value) (hI:h.get? I=some { cls:=.type "set_iterator",data:=.fields #[x0,x1,x2,x3,x4] }) :
  (h.update I (Obj.mapFields (·.setIfInBounds k v))).get? I=some { cls:=.type "set_iterator",data:=.fields (#[x0,x1,x2,x3,x4].setIfInBounds k v) }:=by
 rw [Heap.get?_update_self _ hI rfl]
 rfl
theorem it_else {h:Heap} {f:Obj->Obj} {b:Addr} {ob:Obj} (hb:b≠I) (e:h.get? b=some ob):(h.update I f).get? b=some ob:=(Heap.get?_update_other _ _ (Ne.symm hb)).trans e
theorem Fst.heap {h h1:Heap} (F:Fst w a es ep t h i first vs) (k:∀ T,first=.ref T->∀ ob,h.get? T=some ob->h1.get? T=some ob):Fst w a es ep t h1 i first vs:=by
 cases F with
 | byText hb=>exact .byText hb
 | drawn hp e=>exact .drawn hp (k _ rfl _ e)
 | plain hb hp hl=>exact .plain hb hp hl
theorem next_item {v:Value} {Q:Option Value->Shared->Prop} (ho:s.heap.get? a=some o) (hex:o.ExactSet) (hd:o.data=.set es ep t) (ti:TabI t es.size) (hI:s.heap.get? I=some (itObj first i a es.size ep)) (hne:a≠I) (hT:∀ T,first=.ref T->T≠I)
  (F:Fst w a es ep t s.heap i first vs) (hv:vs[i]?=some v)
  (fin:∀ h1 first',(∀ b ob,b≠I->s.heap.get? b=some ob->h1.get? b=some ob)->h1.get? I=some (itObj first' (i+1) a es.size ep)->(∀ T,first'=.ref T->first=.ref T)->Fst w a es ep t h1 (i+1) first' vs->Q (some v) { s with heap:=h1 }) :
  wpAny (model prog w) A (pyNext (.ref I)) Q E s:=by
 have hTy:s.TypeIs (.ref I) "set_iterator" := ⟨_,hI,rfl⟩
 unfold pyNext
 refine wpAny_bind (wpAny_attempt (wpAny_callSpecial?_slot (name:=Str.ofString "__next__") hTy si_next (wpAny_call_entry si_next hTy si_entry ?_ (si_args _))))
 unfold Builtin.«set_iterator.__next__» slotArgs
 simp only [List.isEmpty_nil,Bool.not_true,Bool.false_eq_true, ↓reduceIte,bind_assoc,List.length_nil,bne_self_eq_false]
 refine wpAny_bind (wpAny_pure ?_)
 dsimp only
 refine wpAny_bind (wpAny_fieldsOf hI rfl ?_)
 dsimp only [rawInt]
 refine wpAny_bind (wpAny_setEntries_of ho hd ti.fits ?_)
 rw [if_neg (by simp)]
 have two:∀ (nx:Nat) {Q1:Fin->Shared->Prop},(∀ h1,(∀ b ob,b≠I->s.heap.get? b=some ob->h1.get? b=some ob)->h1.get? I=some (itObj (.int nx 0) (i+1) a es.size ep)->Q1 (.done (.ret v)) { s with heap:=h1 }) ->
   wpAny (model prog w) A.in1 (do setField (.ref I) 0 (.int nx 0); setField (.ref I) 1 (.int (i+1) 0); ret v) Q1 (fun e s'=>wpAny (model prog w) A (do let b <-isInstance e (.type "StopIteration"); if b=true then pure none else throw e) Q E s') s:=by
  intro nx Q1 q
  refine wpAny_bind (wpAny_setField hI rfl (by simp) ?_)
  have g1:=it_put (n:=es.size) 0 (.int nx 0) hI
  refine wpAny_bind (wpAny_setField g1 rfl (by simp) ?_)
  refine wpAny_pure (q _ (fun b ob hb e=>it_else hb (it_else hb e)) ?_)
  have g2:=it_put (n:=es.size) 1 (.int ((i:Int)+1) 0) g1
  exact g2
 cases F with
 | byText hb =>
  dsimp only
  unfold setNext setsByText
  refine wpAny_bind (wpAny_bind (wpAny_setState_of ho hd ti.fits ?_))
  dsimp only
  refine wpAny_bind (wpAny_bind (wpAny_askSetting (wpAny_pure ?_)))
  dsimp only
  rw [show (model prog w).w.params.followText "set-order" = true from hb]
  simp only [↓reduceIte,Int.toNat_natCast,bne_self_eq_false,Bool.false_eq_true]
  unfold setWalk setsByText
  refine wpAny_bind (wpAny_bind (wpAny_setState_of ho hd ti.fits ?_))
  dsimp only
  refine wpAny_bind (wpAny_bind (wpAny_askSetting (wpAny_pure ?_)))
  dsimp only
  rw [show (model prog w).w.params.followText "set-order" = true from hb]
  simp only [↓reduceIte]
  refine wpAny_bind (wpAny_askSetting (wpAny_pure ?_))
  dsimp only
  rw [List.getElem?_map,Array.getElem?_toList] at hv
  have hv':(pickOrder ((model prog w).w.params.setOrder a ep) es)[i]?.map (·.2)=some v:=hv
  cases hq:(pickOrder ((model prog w).w.params.setOrder a ep) es)[i]? with
  | none=>rw [hq] at hv'; cases hv'
  | some e =>
   rw [hq] at hv'
   cases hv'
   refine wpAny_pure ?_
   dsimp only [Option.map_some]
   exact two _ fun h1 k1 g1=>⟨_,rfl,wpAny_pure (fin h1 _ k1 g1 (fun T z=>by cases z) (.byText hb))⟩
 | @drawn T c ps hp hT2 =>
  dsimp only
  refine wpAny_bind (wpAny_seqItems hT2 rfl ?_)
  dsimp only
  rw [List.getElem?_map] at hv
  cases hq:ps[i]? with
  | none=>rw [hq] at hv; cases hv
  | some p =>
   rw [hq] at hv
   cases hv
   have hlt:p<es.size:=List.mem_range.mp (hp.mem_iff.mp (List.mem_of_getElem? hq))
   have e1:(List.map (fun (p:Nat)=>rawInt p) ps).toArray[((i:Int)).toNat]?=some (.int (p:Int) 0):=by
    simp only [Int.toNat_natCast,List.getElem?_toArray,List.getElem?_map,hq]
    rfl
   rw [e1]
   dsimp only
   unfold setNextDrawn
   refine wpAny_bind (wpAny_bind (wpAny_setState_of ho hd ti.fits ?_))
   dsimp only
   simp only [Int.toNat_natCast,bne_self_eq_false,Bool.false_eq_true, ↓reduceIte,Array.getElem?_eq_getElem hlt]
   refine wpAny_pure ?_
   refine wpAny_bind (wpAny_setField hI rfl (by simp) ?_)
   have g1:=it_put (n:=es.size) 1 (.int ((i:Int)+1) 0) hI
   have e2:(es.getD p (0,Value.none)).2=es[p].2:=by simp [hlt]
   refine wpAny_pure ⟨_,rfl,wpAny_pure ?_⟩
   have q:=fin _ _ (fun b ob hb e=>it_else hb e) g1 (fun T z=>z) (.drawn hp (it_else (hT T rfl) hT2))
   dsimp only at q
   rw [e2] at q
   exact q
 | plain hb hpl hled =>
  dsimp only
  unfold setNext setsByText
  refine wpAny_bind (wpAny_bind (wpAny_setState_of ho hd ti.fits ?_))
  dsimp only
  refine wpAny_bind (wpAny_bind (wpAny_askSetting (wpAny_pure ?_)))
  dsimp only
  rw [show (model prog w).w.params.followText "set-order" = false from hb]
  simp only [↓reduceIte,Int.toNat_natCast,bne_self_eq_false,Bool.false_eq_true]
  rw [if_neg (fun z=>by have z':(!t.plain && decide (es.size>1))=true:=z; rw [hpl] at z'; cases z')]
  have led0:∀ {Q1:Unit->Shared->Prop} {E1:Value->Shared->Prop},Q1 () s->wpAny (model prog w) A.in1 (if (!t.led && !es.isEmpty)=true then unsupported "set:maker-not-led" else pure ()) Q1 E1 s:=fun q=>by
   rw [hled,if_neg (by simp)]
   exact wpAny_pure q
  refine wpAny_bind (led0 ?_)
  rw [List.getElem?_map,Array.getElem?_toList] at hv
  cases hq:es[i]? with
  | none=>rw [hq] at hv; cases hv
  | some e =>
   rw [hq] at hv
   cases hv
   have hlt:i<es.size:=(Array.getElem?_eq_some_iff.mp hq).1
   have hlp:i<t.place.size:=by rw [ti.size]; exact hlt
   rw [below_at ti.ris (Nat.le_of_lt hlp),hq,Array.getElem?_eq_getElem hlp]
   refine wpAny_pure ?_
   dsimp only
   refine two _ fun h1 k1 g1=>⟨_,rfl,wpAny_pure (fin h1 _ k1 g1 (fun T z=>by cases z) ?_)⟩
   have q:=Fst.plain (w:=w) (a:=a) (es:=es) (ep:=ep) (t:=t) (h:=h1) (i:=i+1) (tk:=0) hb hpl hled
   rw [if_neg (Nat.succ_ne_zero i),Nat.add_sub_cancel,getD_in hlp] at q
   exact q
theorem next_end {Q:Option Value->Shared->Prop} (hh:A.handled=none) (ho:s.heap.get? a=some o) (hex:o.ExactSet) (hd:o.data=.set es ep t) (ti:TabI t es.size) (hI:s.heap.get? I=some (itObj first i a es.size ep)) (hne:a≠I)
  (F:Fst w a es ep t s.heap i first vs) (hi:i=vs.length)
  (fin:∀ h1,(∀ b ob,b≠I->s.heap.get? b=some ob->h1.get? b=some ob)->Q none { s with heap:=h1 }) :
  wpAny (model prog w) A (pyNext (.ref I)) Q E s:=by
 have hTy:s.TypeIs (.ref I) "set_iterator" := ⟨_,hI,rfl⟩
 have hlen:i=es.size:=by rw [hi,F.perm.length_eq,List.length_map,Array.length_toList]
 unfold pyNext
 refine wpAny_bind (wpAny_attempt (wpAny_callSpecial?_slot (name:=Str.ofString "__next__") hTy si_next (wpAny_call_entry si_next hTy si_entry ?_ (si_args _))))
 unfold Builtin.«set_iterator.__next__» slotArgs
 simp only [List.isEmpty_nil,Bool.not_true,Bool.false_eq_true, ↓reduceIte,bind_assoc,List.length_nil,bne_self_eq_false]
 refine wpAny_bind (wpAny_pure ?_)
 dsimp only
 refine wpAny_bind (wpAny_fieldsOf hI rfl ?_)
 dsimp only [rawInt]
 refine wpAny_bind (wpAny_setEntries_of ho hd ti.fits ?_)
 rw [if_neg (by simp)]
 have stop:∀ (h0:Heap) {Q1:Fin->Shared->Prop},(∀ b ob,b≠I->s.heap.get? b=some ob->h0.get? b=some ob)->wpAny (model prog w) A.in1 (do let e <-newExc (.type "StopIteration") []; raiseNew e) Q1
   (fun e s'=>wpAny (model prog w) A (do let b <-isInstance e (.type "StopIteration"); if b=true then pure none else throw e) Q E s') { s with heap:=h0 }:=by
  intro h0 Q1 k0
  refine wpAny_bind ?_
  simp only [newExc,newTuple]
  refine wpAny_bind (wpAny_newObj_type ?_ (by size_fits))
  refine wpAny_bind (m:=firstArgMember _ _) (wpAny_of_eq (a:=Value.none) (by first | rfl | (simp only [firstArgMember]; rfl)) ?_)
  refine wpAny_newObj_type ?_ (by size_fits)
  simp only [raiseNew]
  refine wpAny_bind (wpAny_handled ?_)
  rw [show A.in1.handled=none from hh]
  refine wpAny_bind (wpAny_pure (wpAny_throw ?_))
  refine wpAny_bind (wpAny_isInstance (T:="StopIteration") (b:=true) ⟨_,Heap.get?_push_size _ rfl,rfl⟩ isSubtype_stop ?_)
  exact wpAny_pure (fin _ fun b ob hb e=>Heap.get?_push_of_some _ (Heap.get?_push_of_some _ (k0 b ob hb e)))
 have one:∀ {Q1:Fin->Shared->Prop},wpAny (model prog w) A.in1 (do setField (.ref I) 2 .none; let e <-newExc (.type "StopIteration") []; raiseNew e) Q1
   (fun e s'=>wpAny (model prog w) A (do let b <-isInstance e (.type "StopIteration"); if b=true then pure none else throw e) Q E s') s:=by
  intro Q1
  exact wpAny_bind (wpAny_setField hI rfl (by simp) (stop _ fun b ob hb e=>it_else hb e))
 cases F with
 | byText hb =>
  dsimp only
  unfold setNext setsByText
  refine wpAny_bind (wpAny_bind (wpAny_setState_of ho hd ti.fits ?_))
  dsimp only
  refine wpAny_bind (wpAny_bind (wpAny_askSetting (wpAny_pure ?_)))
  dsimp only
  rw [show (model prog w).w.params.followText "set-order" = true from hb]
  simp only [↓reduceIte,Int.toNat_natCast,bne_self_eq_false,Bool.false_eq_true]
  unfold setWalk setsByText
  refine wpAny_bind (wpAny_bind (wpAny_setState_of ho hd ti.fits ?_))
  dsimp only
  refine wpAny_bind (wpAny_bind (wpAny_askSetting (wpAny_pure ?_)))
  dsimp only
  rw [show (model prog w).w.params.followText "set-order" = true from hb]
  simp only [↓reduceIte]
  refine wpAny_bind (wpAny_askSetting (wpAny_pure ?_))
  dsimp only
  have no:(pickOrder ((model prog w).w.params.setOrder a ep) es)[i]?=none:=by
   rw [Array.getElem?_eq_none_iff]
   rw [hi,List.length_map,Array.length_toList]
   exact Nat.le_refl _
  rw [no]
  refine wpAny_pure ?_
  exact one
 | @drawn T c ps hp hT2 =>
  dsimp only
  refine wpAny_bind (wpAny_seqItems hT2 rfl ?_)
  dsimp only
  have e1:(List.map (fun (p:Nat)=>rawInt p) ps).toArray[((i:Int)).toNat]?=none:=by
   rw [hi]
   simp
  rw [e1]
  dsimp only
  refine wpAny_bind (wpAny_setField hI rfl (by simp) ?_)
  have g1:=it_put (n:=es.size) 0 (.int 0 0) hI
  refine wpAny_bind (wpAny_setField g1 rfl (by simp) ?_)
  exact stop _ fun b ob hb e=>it_else hb (it_else hb e)
 | plain hb hpl hled =>
  dsimp only
  unfold setNext setsByText
  refine wpAny_bind (wpAny_bind (wpAny_setState_of ho hd ti.fits ?_))
  dsimp only
  refine wpAny_bind (wpAny_bind (wpAny_askSetting (wpAny_pure ?_)))
  dsimp only
  rw [show (model prog w).w.params.followText "set-order" = false from hb]
  simp only [↓reduceIte,Int.toNat_natCast,bne_self_eq_false,Bool.false_eq_true]
  rw [if_neg (fun z=>by have z':(!t.plain && decide (es.size>1))=true:=z; rw [hpl] at z'; cases z')]
  have led0:∀ {Q1:Unit->Shared->Prop} {E1:Value->Shared->Prop},Q1 () s->wpAny (model prog w) A.in1 (if (!t.led && !es.isEmpty)=true then unsupported "set:maker-not-led" else pure ()) Q1 E1 s:=fun q=>by
   rw [hled,if_neg (by simp)]
   exact wpAny_pure q
  refine wpAny_bind (led0 ?_)
  rw [below_at ti.ris (by rw [ti.size,hlen]; exact Nat.le_refl _),Array.getElem?_eq_none (by rw [hlen]; exact Nat.le_refl _)]
  refine wpAny_pure ?_
  exact one
end
theorem si_iter:Slot "set_iterator" "__iter__" "set_iterator.__iter__" :=
 Slot.of (owner:="set_iterator") (n:="__iter__") (by rw [typeLookup_type,builtinLookup_eq_fast]; kernel_rfl) (by decide +kernel) (by decide +kernel) (by decide +kernel) (.inl (by decide +kernel)) (by rw [isSubtype_type]; kernel_rfl)
theorem si_iter_entry:entryFor table "set_iterator.__iter__" = some Builtin.«dict_keyiterator.__iter__»:=entryFor_alias (id':="dict_keyiterator.__iter__") (by kernel_rfl) rfl (by decide +kernel) (by kernel_rfl)
theorem si_iter_args (a:Value):argsOk "set_iterator.__iter__" ⟨[a],[]⟩:=by unfold argsOk; kernel_rfl
section
variable {prog:Program} {w:World} {A:Around} {E:Value->Shared->Prop} {s:Shared} {a I:Addr} {o:Obj} {es:Array (Int × Value)} {ep:Nat} {t:SetTable} {vs:List Value}
def StI (w:World) (a I:Addr) (o:Obj) (es:Array (Int × Value)) (ep:Nat) (t:SetTable) (Ts:List Addr) (vs:List Value) (i:Nat) (h:Heap):Prop :=
 ∃ first,h.get? I=some (itObj first i a es.size ep)/\h.get? a=some o/\(∀ T,first=.ref T->T∈Ts)/\Fst w a es ep t h i first vs
theorem walks_set (hh:A.handled=none) (hex:o.ExactSet) (hd:o.data=.set es ep t) (ti:TabI t es.size) (hne:a≠I) (Ts:List Addr) (hTs:I ∉ Ts) :
  Walks prog w A I (I::a::Ts) [I] vs.length (fun i v=>vs[i]?=some v) (StI w a I o es ep t Ts vs) where
 sub:=fun b hb=>by rw [List.mem_singleton.mp hb]; exact List.mem_cons_self
 frame:=fun i h h1 st k=>by
  obtain ⟨first,g1,g2,g3,F⟩:=st
  exact ⟨first,k I List.mem_cons_self _ g1,k a (List.mem_cons_of_mem _ List.mem_cons_self) _ g2,g3,F.heap fun T e ob q=>k T (List.mem_cons_of_mem _ (List.mem_cons_of_mem _ (g3 T e))) ob q⟩
 item:=fun i s Q E hi st fin=>by
  obtain ⟨first,g1,g2,g3,F⟩:=st
  refine next_item g2 hex hd ti g1 hne (fun T e z=>hTs (z ▸ g3 T e)) F (List.getElem?_eq_getElem hi) fun h1 first' k1 q1 q2 F1=>?_
  exact fin _ h1 s.toks (List.getElem?_eq_getElem hi) ⟨first',q1,k1 a o hne g2,fun T e=>g3 T (q2 T e),F1⟩ fun b ob hb e=>k1 b ob (fun z=>hb (by rw [z]; exact List.mem_singleton_self _)) e
 done:=fun s Q E st fin=>by
  obtain ⟨first,g1,g2,g3,F⟩:=st
  exact next_end hh g2 hex hd ti g1 hne F rfl fun h1 k1=>fin h1 s.toks fun b ob hb e=>k1 b ob (fun z=>hb (by rw [z]; exact List.mem_singleton_self _)) e
 self:=fun i s Q E st q=>by
  obtain ⟨first,g1,g2,g3,F⟩:=st
  have hTy:s.TypeIs (.ref I) "set_iterator" := ⟨_,g1,rfl⟩
  refine wpAny_pyIter_slot hTy si_iter (wpAny_call_entry si_iter hTy si_iter_entry ?_ (si_iter_args _))
  exact wpAny_pure ⟨_,rfl,"set_iterator",_,hTy,si_next.lookup,q⟩
theorem hint_set (hT:s.TypeIs (.ref a) "set") {Q:Bool->Shared->Prop} (h:Q false s):wpAny (model prog w) A (Builtin.List.listLengthHint (.ref a)) Q E s:=by
 unfold Builtin.List.listLengthHint
 refine wpAny_bind (wpAny_specialOf hT PySem.F.slot_set_len.lookup ?_)
 generalize hid:("set.__len__" : String)=id0
 wp_delta
 rw [show splitId id0=some ("set","__len__") from by subst hid; decide +kernel]
 subst hid
 refine wpAny_bind (wpAny_isInstance (b:=true) hT sub_set_self (wpAny_ite_split (fun z=>absurd z (by decide)) fun _=>wpAny_ite_split (fun _=>?_) fun z=>absurd (by decide +kernel) z))
 exact wpAny_bind (wpAny_typeOf hT (wpAny_pure h))
theorem collect_set {Q:List Value->Shared->Prop} (hh:A.handled=none) (ho:s.heap.get? a=some o) (hex:o.ExactSet) (hd:o.data=.set es ep t) (ti:TabI t es.size) (hl:t.led=!(w.params.followText "set-order")) (hb:es.size<scanBound)
  (fin:∀ (h1:Heap) (tk:Nat) (d:Drawn) (vs:List Value),(∀ b ob,s.heap.get? b=some ob->h1.get? b=some ob)->s.heap.objs.size<h1.objs.size->vs.Perm (es.toList.map (·.2))->Q vs { s with heap:=h1,toks:=tk,drawn:=d }) :
  wpAny (model prog w) A (collect (.ref a)) Q E s:=by
 have alt:=Heap.lt_size ho
 unfold collect
 refine wpAny_bind (wpAny_runValue (codeAny_builtin entry_proto_collect' ?_))
 rw [Around.under_plainId PySem.F.plain_proto_collect]
 refine wpAny_bind (m:=newList []) (wpAny_newObj_type (wpAny_pure ⟨plainId_quiet PySem.F.plain_list_iadd _,codeAny_builtin entry_list_iadd' ?_⟩))
 rw [Around.under_plainId PySem.F.plain_list_iadd]
 generalize hs1:({ s with heap:=s.heap.push { cls:=.type "list",dict:=none,data:=.seq ([]:List Value).toArray } }:Shared)=s1
 change wpAny (model prog w) A.in1 (Builtin.List.listExtendWith (.ref s.heap.objs.size) (.ref a) (.ref s.heap.objs.size)) _ _ _
 have at1:s1.heap.get? s.heap.objs.size=some { cls:=.type "list",dict:=none,data:=.seq #[] 0,slots:=#[] }:=by rw [<-hs1]; exact Heap.get?_push_size _ rfl
 have k1:∀ b ob,s.heap.get? b=some ob->s1.heap.get? b=some ob:=fun b ob e=>by rw [<-hs1]; exact Heap.get?_push_of_some _ e
 have ho1:=k1 a o ho
 have hT1:s1.TypeIs (.ref a) "set" := ⟨o,ho1,hex.1⟩
 unfold Builtin.List.listExtendWith
 refine wpAny_bind (wpAny_typeOf hT1 ?_)
 have n1:Builtin.List.listSameRef (.ref s.heap.objs.size) (.ref a)=false:=by
  simp only [Builtin.List.listSameRef,beq_eq_false_iff_ne]
  exact Nat.ne_of_gt alt
 have n2:(Value.type "set" == Value.type "list")=false:=by decide
 have n3:(Value.type "set" == Value.type "tuple")=false:=by decide
 simp only [n1,n2,n3,Bool.or_false,Bool.false_eq_true,if_false]
 refine wpAny_bind (iter_set ho1 hex hd ti hl hb fun I first h2 d vs k2 hI at2 hf F=>?_)
 generalize hS:s.heap.objs.size=S at *
 have S1:S<s1.heap.objs.size:=Heap.lt_size at1
 obtain ⟨Ts,tin,tout,tall⟩:∃ Ts:List Addr,(∀ T,first=.ref T->T∈Ts)/\I ∉ Ts/\∀ T∈Ts,s1.heap.objs.size<=T:=by
  cases first with
  | ref T=>exact ⟨[T],(fun T' e=>by cases e; exact List.mem_singleton_self _),fun z=>(hf T rfl).1 (List.mem_singleton.mp z).symm,fun T' z=>by rw [List.mem_singleton.mp z]; exact (hf T rfl).2⟩
  | _=>exact ⟨[],(fun T e=>nomatch e),List.not_mem_nil,fun T z=>absurd z List.not_mem_nil⟩
 have aI:a≠I:=Nat.ne_of_lt (Nat.lt_of_lt_of_le (Nat.lt_trans alt S1) hI)
 have SI:S≠I:=Nat.ne_of_lt (Nat.lt_of_lt_of_le S1 hI)
 have Sfp:S ∉ I::a::Ts:=fun z=>by
  rcases List.mem_cons.mp z with z | z
  ·exact SI z
  ·rcases List.mem_cons.mp z with z | z
   ·exact Nat.ne_of_gt alt z
   ·exact absurd (Nat.lt_of_lt_of_le S1 (tall S z)) (Nat.lt_irrefl _)
 have hn:vs.length<=sizeLine:=by
  rw [F.perm.length_eq,List.length_map,Array.length_toList]
  exact fits_of_scanBound hb
 have W:=walks_set (prog:=prog) (w:=w) (A:=A.in1) (vs:=vs) hh hex hd ti aI Ts tout
 have st2:StI w a I o es ep t Ts vs 0 h2:=⟨first,at2,k2 a o ho1,tin,F⟩
 have key:∀ (h3:Heap) (c:Nat),StI w a I o es ep t Ts vs 0 h3->h3.get? S=some { cls:=.type "list",dict:=none,data:=.seq #[] c,slots:=#[] }->(∀ b ob,s.heap.get? b=some ob->h3.get? b=some ob) ->
   codeAny (model prog w) A (.builtin "list.extend.loop" ⟨[.ref S,.ref I,.ref S],[]⟩) (fun r s'=>match r with
    | .ok (.ret v)=>wpAny (model prog w) A (match v with
      | .ref a=>do
       let x <-load a
       match x.data with
        | .seq xs _=>pure xs.toList
        | _=>unsupported "internal:collect"
      | _=>unsupported "internal:collect") Q E s'
    | .ok _=>False
    | .error e=>E e s') { heap:=h3,gens:=s1.gens,drawn:=d,toks:=s1.toks,os:=s1.os }:=by
  intro h3 c st3 g3 k3
  refine codeAny_extend_loopS W.toS hn S Sfp (.ref S) vs.length 0 _ #[] c rfl (Nat.zero_le _) st3 g3 (ItemsOf.nil _) fun s4 acc c4 mv g4 items=>?_
  dsimp only
  refine wpAny_bind (wpAny_load g4 ?_)
  dsimp only
  obtain ⟨h4,gg,d4,tk4,o4⟩:=s4
  have x1:gg=s1.gens:=mv.gens
  have x2:d4=d:=mv.drawn
  have x3:o4=s1.os:=mv.os
  subst x1 x2 x3
  have ev:acc.toList=vs:=by
   apply List.ext_getElem?
   intro i
   rw [Array.getElem?_toList]
   by_cases hi:i<vs.length
   ·have hi':i<acc.size:=by rw [items.1]; exact hi
    rw [Array.getElem?_eq_getElem hi']
    exact (items.2 i _ (Array.getElem?_eq_getElem hi')).symm
   ·rw [Array.getElem?_eq_none (by rw [items.1]; omega),List.getElem?_eq_none (by omega)]
  rw [ev]
  have q:=fin h4 tk4 d4 vs (fun b ob e=>mv.heap b ob (fun z=>?_) (k3 b ob e)) (Heap.lt_size g4) F.perm
  ·rw [<-hs1]
   exact wpAny_pure q
  ·have lb:=Heap.lt_size e
   rcases List.mem_cons.mp z with z | z
   ·rw [hS,z] at lb
    exact Nat.lt_irrefl _ lb
   ·rw [List.mem_singleton.mp z,hS] at lb
    exact Nat.lt_irrefl _ (Nat.lt_of_lt_of_le (Nat.lt_trans lb S1) hI)
 have kall:∀ b ob,s.heap.get? b=some ob->h2.get? b=some ob:=fun b ob e=>k2 b ob (k1 b ob e)
 have nbS:∀ {b:Addr} {ob:Obj},s.heap.get? b=some ob->b≠S:=fun e=>Nat.ne_of_lt (hS ▸ Heap.lt_size e)
 refine wpAny_bind (wpAny_holding (hint_set ⟨o,k2 a o ho1,hex.1⟩ ?_))
 refine wpAny_ite_split (fun _=>?_) (fun _=>wpAny_pure ⟨plainId_quiet PySem.F.plain_extend_loop _,key h2 0 st2 (k2 S _ at1) kall⟩)
 refine wpAny_bind (wpAny_rule (wpAny_bind (m:=Builtin.List.listTouch (.ref S)) ?_))
 change wpAny (model prog w) _ (updateSeq S (·.push .none) >>= fun _=>updateSeq S (·.pop)) _ _ _
 refine wpAny_bind (wpAny_updateSeq (k2 S _ at1) rfl ?_)
 have u1:=Heap.get?_update_self (Obj.mapSeq (·.push Value.none)) (k2 S _ at1) rfl
 refine wpAny_updateSeq (hz:=by seq_fits) u1 rfl ?_
 have u2:=Heap.get?_update_self (Obj.mapSeq (·.pop)) u1 rfl
 have other:∀ b ob,b≠S->h2.get? b=some ob->((h2.update S (Obj.mapSeq (·.push Value.none))).update S (Obj.mapSeq (·.pop))).get? b=some ob:=fun b ob z e=>(Heap.get?_update_other _ _ (Ne.symm z)).trans ((Heap.get?_update_other _ _ (Ne.symm z)).trans e)
 refine wpAny_pure ⟨plainId_quiet PySem.F.plain_extend_loop _,key _ _ (W.frame 0 _ _ st2 fun b z ob e=>other b ob (fun y=>Sfp (y ▸ z)) e) u2 fun b ob e=>other b ob (nbS e) (kall b ob e)⟩
end
section
variable {prog:Program} {w:World} {K:Type} [DecidableEq K] {knd:PySem.KeyKind prog w K} {A:Around} {E:Value->Shared->Prop} {s:Shared} {a:Addr}
theorem sortedHeap_keep {h:Heap} {l b:Addr} {vs:List Value} {out:Array Value} {ob:Obj} (hb:b≠l) (e:h.get? b=some ob):(sortedHeap h l vs out).get? b=some ob:=by
 rw [sortedHeap_old hb (Heap.lt_size e)]
 exact e
theorem paired_map {α β γ:Type} {G:α->γ->Prop} {g:β->γ}:∀ {l:List α} {r:List β},Paired (fun x y=>G x (g y)) l r->Paired G l (r.map g)
 | _,_,.nil=>.nil
 | _,_,.cons q t=>.cons q (paired_map t)
theorem sorted_of_set {ks:List K} {Q:Value->Shared->Prop} (hh:A.handled=none) (hS:SetG knd s.heap a ks)
  (fin:∀ (h1:Heap) (tk:Nat) (d:Drawn) (vs:List Value) (ks1:List K),(∀ b ob,s.heap.get? b=some ob->h1.get? b=some ob)->s.heap.objs.size<h1.objs.size->Paired (fun k v=>knd.is k v=true) ks1 vs->ks1.Perm ks ->
   wpAny (model prog w) A.in1.in1 (Builtin.«list.sort» ⟨[.ref h1.objs.size],[]⟩) (fun r s2=>r=.done (.ret .none)/\Q (.ref h1.objs.size) s2) E { s with heap:=h1.push (seqObj "list" vs.toArray 0),toks:=tk,drawn:=d }) :
  wpAny (model prog w) A (call (.builtin "sorted") [.ref a]) Q E s:=by
 obtain ⟨o,ho,S⟩:=hS
 obtain ⟨es,ep,t,hd,hel,pr,hb,ti,hl⟩:=S.dat
 refine Calls.call_function_entry kind_sorted plain_sorted entry_sorted (args_sorted1 _) ?_
 unfold Builtin.«sorted»
 refine wpAny_bind (m:=checkCount "sorted" 1 1 _) (wpAny_pure ?_)
 refine wpAny_bind (collect_set hh ho S.ex hd ti hl hb fun h1 tk d vs k1 sz hp=>?_)
 have hn:vs.length<=sizeLine:=by
  rw [hp.length_eq,List.length_map,Array.length_toList]
  exact fits_of_scanBound hb
 have pr2:Paired (fun k v=>knd.is k v=true) ks (es.toList.map (·.2)):=paired_map pr
 obtain ⟨ks1,pr3,pk⟩:=paired_perm hp pr2
 refine wpAny_bind (wpAny_newList ?_ hn)
 refine wpAny_bind (wpAny_holding ?_)
 have at1:(h1.push (seqObj "list" vs.toArray 0)).get? h1.objs.size=some (seqObj "list" vs.toArray 0):=Heap.get?_push_size _ rfl
 refine wpAny_call_entry slot_list_sort ⟨_,at1,rfl⟩ entry_list_sort ?_ (args_list_sort _)
 refine wpAny_mono (fin h1 tk d vs ks1 k1 sz pr3 pk) (fun r s2 q=>?_) fun _ _ z=>z
 obtain ⟨rfl,q⟩:=q
 exact ⟨_,rfl,wpAny_pure ⟨_,rfl,q⟩⟩
theorem ints_of {f:K->Int}:∀ {ks:List K} {vs:List Value},(∀ k v,k∈ks->knd.is k v=true->∃ t,v=.int (f k) t)->Paired (fun k v=>knd.is k v=true) ks vs->IntsAre vs (ks.map f)
 | _,_,_,.nil=>.nil
 | k::ks,v::vs,hf,.cons r t=>by
  obtain ⟨tk,rfl⟩:=hf k v List.mem_cons_self r
  exact .cons _ _ (ints_of (fun k v hk=>hf k v (List.mem_cons_of_mem _ hk)) t)
theorem strs_of {f:K->Str}:∀ {ks:List K} {vs:List Value},(∀ k v,k∈ks->knd.is k v=true->∃ t,v=.str (f k) t)->Paired (fun k v=>knd.is k v=true) ks vs->StrsAre vs (ks.map f)
 | _,_,_,.nil=>.nil
 | k::ks,v::vs,hf,.cons r t=>by
  obtain ⟨tk,rfl⟩:=hf k v List.mem_cons_self r
  exact .cons _ _ (strs_of (fun k v hk=>hf k v (List.mem_cons_of_mem _ hk)) t)
theorem sorted_set_ints {ks:List K} {f:K->Int} {Q:Value->Shared->Prop} (hh:A.handled=none) (hS:SetG knd s.heap a ks) (hf:∀ k v,k∈ks->knd.is k v=true->∃ t,v=.int (f k) t) (h64:ks.length<64)
  (fin:∀ (h1:Heap) (tk:Nat) (d:Drawn) (l:Addr) (out:Array Value) (n:Nat) (ns:List Int),(∀ b ob,s.heap.get? b=some ob->h1.get? b=some ob)->s.heap.objs.size<=l->h1.get? l=some (seqObj "list" out n)->IntsAre out.toList ns->ns.Perm (ks.map f)->ns.Pairwise (·<=·)->Q (.ref l) { s with heap:=h1,toks:=tk,drawn:=d }) :
  wpAny (model prog w) A (call (.builtin "sorted") [.ref a]) Q E s:=by
 refine sorted_of_set hh hS fun h1 tk d vs ks1 k1 sz pr pk=>?_
 have hI:=ints_of (fun k v hk=>hf k v (pk.mem_iff.mp hk)) pr
 have hlen:vs.length=ks.length:=by rw [<-pr.length,pk.length_eq]
 refine list_sort_tree (s:={ s with heap:=h1.push (seqObj "list" vs.toArray 0),toks:=tk,drawn:=d }) (Heap.get?_push_size _ rfl) hI (by omega) fun out ns q1 q2 q3=>⟨rfl, ?_⟩
 obtain ⟨n,e⟩:=sortedHeap_at (h:=h1.push (seqObj "list" vs.toArray 0)) (a:=h1.objs.size) (vs:=vs) (n:=0) (out:=out) (Heap.get?_push_size _ rfl)
 exact fin _ tk d h1.objs.size out n ns (fun b ob e0=>sortedHeap_keep (Nat.ne_of_lt (Heap.lt_size (k1 b ob e0))) (Heap.get?_push_of_some _ (k1 b ob e0))) (Nat.le_of_lt sz) e q1 (q2.trans (pk.map f)) q3
theorem sorted_set_strs {ks:List K} {f:K->Str} {Q:Value->Shared->Prop} (hh:A.handled=none) (hS:SetG knd s.heap a ks) (hf:∀ k v,k∈ks->knd.is k v=true->∃ t,v=.str (f k) t) (h64:ks.length<64)
  (fin:∀ (h1:Heap) (tk:Nat) (d:Drawn) (l:Addr) (out:Array Value) (n:Nat) (ns:List Str),(∀ b ob,s.heap.get? b=some ob->h1.get? b=some ob)->s.heap.objs.size<=l->h1.get? l=some (seqObj "list" out n)->StrsAre out.toList ns->ns.Perm (ks.map f)->sortedS ns=true->Q (.ref l) { s with heap:=h1,toks:=tk,drawn:=d }) :
  wpAny (model prog w) A (call (.builtin "sorted") [.ref a]) Q E s:=by
 refine sorted_of_set hh hS fun h1 tk d vs ks1 k1 sz pr pk=>?_
 have hI:=strs_of (fun k v hk=>hf k v (pk.mem_iff.mp hk)) pr
 have hlen:vs.length=ks.length:=by rw [<-pr.length,pk.length_eq]
 refine list_sort_treeK strKind_oneLt (s:={ s with heap:=h1.push (seqObj "list" vs.toArray 0),toks:=tk,drawn:=d }) (Heap.get?_push_size _ rfl) hI.keysOf (fun v1 v2 rest e=>keyKind_strs (by rw [<-e]; exact hI)) (by omega) fun st hp hs=>⟨rfl, ?_⟩
 obtain ⟨ns,q1,q2,q3⟩:=sorted_out_str hI hp hs
 obtain ⟨n,e⟩:=sortedHeap_at (h:=h1.push (seqObj "list" vs.toArray 0)) (a:=h1.objs.size) (vs:=vs) (n:=0) (out:=(arrOf st).map (·.2)) (Heap.get?_push_size _ rfl)
 exact fin _ tk d h1.objs.size _ n ns (fun b ob e0=>sortedHeap_keep (Nat.ne_of_lt (Heap.lt_size (k1 b ob e0))) (Heap.get?_push_of_some _ (k1 b ob e0))) (Nat.le_of_lt sz) e q1 (q2.trans (pk.map f)) q3
end
end SetM
namespace L2
open PySem PySem.Spec PyProof.Rows
def SetHO (P:Program) (w:World) (a:Addr) (us:List Key):HO:=.ext fun h=>SetM.SetG (mixKind P w) h a us
theorem scan_kV {P:Program} {w:World} (k:Key) {v:Value} (r:Yq (kV k) v):(mixKind P w).is k v=true/\v.scannable=true:=by
 cases k with
 | inl i=>obtain ⟨t,rfl⟩:=(show ∃ t,v=Value.int i t from r); exact ⟨keyIs_int i t,rfl⟩
 | inr x=>obtain ⟨t,rfl⟩:=(show ∃ t,v=Value.str x t from r); exact ⟨keyIs_str x t,rfl⟩
theorem Zs.put {X:Cx} {pins:List (Addr × Obj)} {σ:St} {H:Hp} {s:Shared} {h':Heap} {a:Addr} {o:HO} {t':Nat} {d':Drawn} (I:Zs X pins σ H s) (k:∀ b u,s.heap.get? b=some u->h'.get? b=some u) (hp:s.heap.objs.size<=a) (new:Vk X.prog X.w (Z6 H a o) h' a o) :
  Zs X pins σ (Z6 H a o) { s with heap:=h',toks:=t',drawn:=d' } :=
 I.call (g':=s.gens) (t':=t') (d':=d') (ch:=[]) (Un.laid k hp (I.hok.fresh hp)) (I.hok.laid k hp new) I.bare fun b z=>absurd z List.not_mem_nil
section
variable {X:Cx}
theorem call_setK (hc:X.calm=true):CallR X (.type "set") (fun xs H Q=>∃ (p:Addr) (ks:List Key),xs=[.ref p]/\Yc X.K H p (ks.map kV)/\ks.length+1<scanBound /\
  ∀ (l:Addr) (us:List Key),H l=none->us.Nodup->(∀ x,x∈us ↔ x∈ks)->us.length<=ks.length->Q (.ref l) (Z6 H l (SetHO X.prog X.w l us))):=by
 intro pins s σ H xs us Q I r h
 obtain ⟨p,ks,rfl,hq,hz,q⟩:=h
 obtain ⟨u,rfl,rx⟩:=vals1 r
 cases rx
 obtain ⟨its,rv,pl,hzz⟩:=I.list hq
 have hl:its.toArray.size=ks.length:=by rw [List.size_toArray, <-rv.length,List.length_map]
 refine SetM.call_set (knd:=mixKind X.prog X.w) (val:=fun i=>ks.getD i (.inl 0)) (I.ok.hd hc) pl.isList (fun i v e=>?_) (by omega) fun h1 tk ws S u k1=>?_
 ·have e':its[i]?=some v:=by simpa using e
  have hi:i<ks.length:=by
   have:=(List.getElem?_eq_some_iff.mp e').1
   rw [List.size_toArray] at hl
   omega
  have e2:(ks.map kV)[i]?=some (kV ks[i]):=by rw [List.getElem?_map,List.getElem?_eq_getElem hi]; rfl
  obtain ⟨v',g1,g2⟩:=rv.get e2
  rw [e'] at g1
  cases g1
  have e3:ks.getD i (.inl 0)=ks[i]:=by simp [hi]
  rw [e3]
  exact scan_kV _ g2
 ·obtain ⟨o,ho,SO⟩:=id S
  have mem:∀ x,x∈ws ↔ x∈ks:=fun x=>by
   rw [u.mem x,hl]
   constructor
   ·rintro ⟨j,h1,h2⟩
    rw [<-h2]
    have e3:ks.getD j (.inl 0)=ks[j]:=by simp [h1]
    rw [e3]
    exact List.getElem_mem h1
   ·intro hx
    obtain ⟨j,h1,h2⟩:=List.mem_iff_getElem.mp hx
    exact ⟨j,h1,by simp [h1,h2]⟩
  refine ⟨.ref s.heap.objs.size,_,I.put (o:=SetHO X.prog X.w s.heap.objs.size ws) (d':=s.drawn) k1 (Nat.le_refl _) ⟨S,⟨o,ho⟩,fun h2 h3 x e=>SetM.SetG.at' x e⟩,rfl,q _ ws (I.hok.fresh (Nat.le_refl _)) SO.nd mem ?_⟩
  have:=u.len
  omega
theorem vals_strs:∀ {vs:List Value} {ss:List Str},StrsAre vs ss->Z0 (ss.map V.str) vs
 | _,_,.nil=>.nil
 | _,_,.cons y t r=>.cons ⟨t,rfl⟩ (vals_strs r)
theorem call_sortedI (hc:X.calm=true):CallR X (.builtin "sorted") (fun xs H Q=>∃ (a:Addr) (zs:List Int),xs=[.ref a]/\H a=some (SetHO X.prog X.w a (zs.map Sum.inl))/\zs.length<64 /\
  ∀ (l:Addr) (ns:List Int),H l=none->ns.Perm zs->ns.Pairwise (·<=·)->Q (.ref l) (Z6 H l (.lst (ns.map V.int)))):=by
 intro pins s σ H xs us Q I r h
 obtain ⟨a,zs,rfl,hq,hz,q⟩:=h
 obtain ⟨u,rfl,rx⟩:=vals1 r
 cases rx
 obtain ⟨S,_,_⟩:=(show SetM.SetG (mixKind X.prog X.w) s.heap a (zs.map Sum.inl)/\_ from I.hok a _ hq)
 refine SetM.sorted_set_ints (knd:=mixKind X.prog X.w) (f:=fun k=>match k with | .inl i=>i | .inr _=>0) (I.ok.hd hc) S (fun k v hk hv=>?_) (by rw [List.length_map]; exact hz) fun h1 tk d l out n ns k1 sz at1 hI pm pw=>?_
 ·obtain ⟨i,_,rfl⟩:=List.mem_map.mp hk
  rcases Yo (show keyIs (Sum.inl i) v=true from hv) with ⟨j,t,e,rfl⟩ | ⟨x,t,e,rfl⟩
  ·cases e; exact ⟨t,rfl⟩
  ·cases e
 ·have pm':ns.Perm zs:=by
   have e:(zs.map (Sum.inl:Int->Key)).map (fun k=>match k with | .inl i=>i | .inr _=>0)=zs:=by rw [List.map_map]; exact List.map_id' _
   rw [<-e]; exact pm
  refine ⟨.ref l,_,I.put (o:=.lst (ns.map V.int)) k1 sz ⟨?_,out.toList,n,vals_ints hI, ?_⟩,rfl,q l ns (I.hok.fresh sz) pm' pw⟩
  ·rw [List.length_map,pm'.length_eq]
   exact Nat.le_of_lt (Vz (by omega))
  ·simpa using at1
theorem call_sortedS (hc:X.calm=true):CallR X (.builtin "sorted") (fun xs H Q=>∃ (a:Addr) (zs:List Str),xs=[.ref a]/\H a=some (SetHO X.prog X.w a (zs.map Sum.inr))/\zs.length<64 /\
  ∀ (l:Addr) (ns:List Str),H l=none->ns.Perm zs->sortedS ns=true->Q (.ref l) (Z6 H l (.lst (ns.map V.str)))):=by
 intro pins s σ H xs us Q I r h
 obtain ⟨a,zs,rfl,hq,hz,q⟩:=h
 obtain ⟨u,rfl,rx⟩:=vals1 r
 cases rx
 obtain ⟨S,_,_⟩:=(show SetM.SetG (mixKind X.prog X.w) s.heap a (zs.map Sum.inr)/\_ from I.hok a _ hq)
 refine SetM.sorted_set_strs (knd:=mixKind X.prog X.w) (f:=fun k=>match k with | .inl _=>("" : Str) | .inr x=>x) (I.ok.hd hc) S (fun k v hk hv=>?_) (by rw [List.length_map]; exact hz) fun h1 tk d l out n ns k1 sz at1 hI pm pw=>?_
 ·obtain ⟨x,_,rfl⟩:=List.mem_map.mp hk
  rcases Yo (show keyIs (Sum.inr x) v=true from hv) with ⟨j,t,e,rfl⟩ | ⟨y,t,e,rfl⟩
  ·cases e
  ·cases e; exact ⟨t,rfl⟩
 ·have pm':ns.Perm zs:=by
   have e:(zs.map (Sum.inr:Str->Key)).map (fun k=>match k with | .inl _=>("" : Str) | .inr x=>x)=zs:=by rw [List.map_map]; exact List.map_id' _
   rw [<-e]; exact pm
  refine ⟨.ref l,_,I.put (o:=.lst (ns.map V.str)) k1 sz ⟨?_,out.toList,n,vals_strs hI, ?_⟩,rfl,q l ns (I.hok.fresh sz) pm' pw⟩
  ·rw [List.length_map,pm'.length_eq]
   exact Nat.le_of_lt (Vz (by omega))
  ·simpa using at1
end
end L2
namespace ZipL
open PySem PySem.Calls PyProof.Rows PyProof.V PySem.Spec
abbrev ZAt (h:Heap) (z TI TO:Addr) (f0 f1:Value):Prop :=
 h.get? z=some { cls:=.type "zip",dict:=none,data:=.fields #[f0,f1,.bool false,.ref TI,.ref TO],slots:=#[] }
section
variable {prog:Program} {w:World} {A:Around} {E:Value->Shared->Prop} {s:Shared} {z TI TO T i1 i2 l1 l2:Addr} {f:Bool} {oT:Obj} {k1 k2:Nat} {xs ys:Array Value} {x y:Value}
theorem busy {Q:Bool->Shared->Prop} (hz:ZAt s.heap z TI TO (rawInt T) (.bool f)) (hT:s.heap.get? T=some oT)
  (fin:∀ h',ZAt h' z TI TO (rawInt T) (.bool true)->Heap.SameBut z s.heap h'->Q false { s with heap:=h' }) :
  wpAny (model prog w) A (Builtin.SmallTypes.ownedTupleIsFree (.ref z)) Q E s:=by
 unfold Builtin.SmallTypes.ownedTupleIsFree
 refine wpAny_bind (wpAny_field hz rfl (x:=rawInt T) rfl ?_)
 change wpAny _ _ (loadIfAlive ((T:Int).toNat) >>= _) _ _ _
 rw [Int.toNat_natCast]
 refine wpAny_bind (W.kdx_alive hT ?_)
 simp only [Option.isNone_some,Bool.false_eq_true,if_false]
 refine wpAny_bind (wpAny_field hz rfl (x:=.bool f) rfl ?_)
 cases f with
 | true =>
  have e:(Value.bool true != Value.bool true)=false:=rfl
  rw [e]
  simp only [Bool.false_eq_true,if_false]
  exact wpAny_pure (fin s.heap hz (Heap.SameBut.refl _ _))
 | false =>
  have e:(Value.bool false != Value.bool true)=true:=rfl
  rw [e]
  simp only [if_true]
  refine wpAny_bind (wpAny_setField_rec hz (by simp) fun h' hz' hs'=>?_)
  exact wpAny_pure (fin h' hz' hs')
theorem more_item {Q:Value->Shared->Prop} (D:ZipApart z TI TO i1 i2 l1 l2) (hz:ZAt s.heap z TI TO (rawInt T) (.bool f)) (hT:s.heap.get? T=some oT) (hTI:IsPair s.heap TI (.ref i1) (.ref i2))
  (h1:s.heap.IsListIter i1 l1 k1) (h2:s.heap.IsListIter i2 l2 k2) (hl1:s.heap.IsList l1 xs) (hl2:s.heap.IsList l2 ys) (hx:xs[k1]?=some x) (hy:ys[k2]?=some y)
  (hQ:∀ h',ZAt h' z TI TO (rawInt T) (.bool true)->h'.IsListIter i1 l1 (k1+1)->h'.IsListIter i2 l2 (k2+1)->IsPair h' s.heap.objs.size x y->h'.objs.size=s.heap.objs.size+1 ->
   (∀ c o,c≠z->c≠i1->c≠i2->s.heap.get? c=some o->h'.get? c=some o)->Q (.ref s.heap.objs.size) { s with heap:=h' }) :
  wpAny (model prog w) A (Builtin.«zip.__next__» ⟨[.ref z],[]⟩) (fun fin s'=>∃ v,fin=.done (.ret v)/\Q v s') E s:=by
 change wpAny _ _ (field (.ref z) 2 >>= _) _ _ _
 refine wpAny_bind (wpAny_field hz rfl (x:=.bool false) rfl ?_)
 change wpAny _ _ (field (.ref z) 3 >>= _) _ _ _
 refine wpAny_bind (wpAny_field hz rfl (x:=.ref TI) rfl ?_)
 refine wpAny_bind (wpAny_seqItems hTI rfl ?_)
 change wpAny _ _ (Builtin.SmallTypes.ownedTupleIsFree (.ref z) >>= _) _ _ _
 refine wpAny_bind (busy hz hT fun g1 z1 s1=>?_)
 simp only [Bool.false_eq_true,if_false]
 refine wpAny_bind ?_
 simp only [List.forIn_toArray,List.forIn_cons,List.forIn_nil]
 refine wpAny_bind (wpAny_bind (wpAny_holding ?_))
 change wpAny _ _ (Builtin.SmallTypes.nextOf (.ref i1) >>= _) _ _ _
 refine wpAny_bind (wpAny_nextOf_list_item (h1.extBut s1.extBut D.i1z) (hl1.extBut s1.extBut D.l1z) hx fun g2 n1 s2=>wpAny_pure (wpAny_pure ?_))
 dsimp only
 refine wpAny_bind (wpAny_bind (wpAny_holding ?_))
 change wpAny _ _ (Builtin.SmallTypes.nextOf (.ref i2) >>= _) _ _ _
 refine wpAny_bind (wpAny_nextOf_list_item ((h2.extBut s1.extBut D.i2z).extBut s2.extBut D.i12.symm) ((hl2.extBut s1.extBut D.l2z).extBut s2.extBut D.l2i1) hy fun g3 n2 s3=>wpAny_pure (wpAny_pure (wpAny_pure ?_)))
 refine wpAny_bind (wpAny_newTuple (hsz:=by show 2<=sizeLine; decide) (wpAny_pure ⟨_,rfl, ?_⟩))
 have sz:g3.objs.size=s.heap.objs.size:=by rw [s3.1,s2.1,s1.1]
 have zz:ZAt g3 z TI TO (rawInt T) (.bool true):=s3.extBut _ _ D.i2z.symm (s2.extBut _ _ D.i1z.symm z1)
 have kk:∀ c o,c≠z->c≠i1->c≠i2->s.heap.get? c=some o->g3.get? c=some o:=fun c o a b d e=>s3.extBut _ _ d (s2.extBut _ _ b (s1.extBut _ _ a e))
 have m1:=n1.extBut s3.extBut D.i12
 change Q (.ref g3.objs.size) _
 rw [sz]
 refine hQ _ (Heap.get?_push_of_some _ zz) (m1.at fun o e=>Heap.get?_push_of_some _ e) (n2.at fun o e=>Heap.get?_push_of_some _ e) ?_ ?_ fun c o a b d e=>Heap.get?_push_of_some _ (kk c o a b d e)
 ·rw [<-sz]; exact Heap.get?_push_size _ rfl
 ·rw [Heap.size_push,sz]
theorem more_end {Q:Fin->Shared->Prop} (hh:A.handled=none) (D:ZipApart z TI TO i1 i2 l1 l2) (hz:ZAt s.heap z TI TO (rawInt T) (.bool f)) (hT:s.heap.get? T=some oT) (hTI:IsPair s.heap TI (.ref i1) (.ref i2))
  (h1:s.heap.IsListIter i1 l1 k1) (h2:s.heap.IsListIter i2 l2 k2) (hl1:s.heap.IsList l1 xs) (hl2:s.heap.IsList l2 ys) (hend:xs[k1]?=none\/ys[k2]?=none)
  (hE:∀ h' e,(∀ c o,c≠z->c≠i1->c≠i2->s.heap.get? c=some o->h'.get? c=some o)->(∃ o,h'.get? e=some o/\o.cls=.type "StopIteration")->E (.ref e) { s with heap:=h' }) :
  wpAny (model prog w) A (Builtin.«zip.__next__» ⟨[.ref z],[]⟩) Q E s:=by
 change wpAny _ _ (field (.ref z) 2 >>= _) _ _ _
 refine wpAny_bind (wpAny_field hz rfl (x:=.bool false) rfl ?_)
 change wpAny _ _ (field (.ref z) 3 >>= _) _ _ _
 refine wpAny_bind (wpAny_field hz rfl (x:=.ref TI) rfl ?_)
 refine wpAny_bind (wpAny_seqItems hTI rfl ?_)
 change wpAny _ _ (Builtin.SmallTypes.ownedTupleIsFree (.ref z) >>= _) _ _ _
 refine wpAny_bind (busy hz hT fun g1 z1 s1=>?_)
 simp only [Bool.false_eq_true,if_false]
 refine wpAny_bind ?_
 simp only [List.forIn_toArray,List.forIn_cons,List.forIn_nil]
 refine wpAny_bind (wpAny_bind (wpAny_holding ?_))
 change wpAny _ _ (Builtin.SmallTypes.nextOf (.ref i1) >>= _) _ _ _
 cases hx:xs[k1]? with
 | none =>
  exact wpAny_bind (wpAny_nextOf_list_end hh (h1.extBut s1.extBut D.i1z) (hl1.extBut s1.extBut D.l1z) hx fun g2 e s2 he=>hE g2 e (fun c o a b _ q=>s2 _ _ b (s1.extBut _ _ a q)) he)
 | some x =>
  have hy:ys[k2]?=none:=hend.resolve_left fun h=>by rw [hx] at h; cases h
  refine wpAny_bind (wpAny_nextOf_list_item (h1.extBut s1.extBut D.i1z) (hl1.extBut s1.extBut D.l1z) hx fun g2 n1 s2=>wpAny_pure (wpAny_pure ?_))
  dsimp only
  refine wpAny_bind (wpAny_bind (wpAny_holding ?_))
  change wpAny _ _ (Builtin.SmallTypes.nextOf (.ref i2) >>= _) _ _ _
  exact wpAny_bind (wpAny_nextOf_list_end hh ((h2.extBut s1.extBut D.i2z).extBut s2.extBut D.i12.symm) ((hl2.extBut s1.extBut D.l2z).extBut s2.extBut D.l2i1) hy fun g3 e s3 he =>
   hE g3 e (fun c o a b d q=>s3 _ _ d (s2.extBut _ _ b (s1.extBut _ _ a q))) he)
structure ZSt (h:Heap) (z TI TO i1 i2 l1 l2 S:Addr) (xs ys:Array Value) (i:Nat):Prop where
 at0:ZAt h z TI TO .none (.bool false)\/∃ (T:Addr) (f:Bool) (oT:Obj),ZAt h z TI TO (rawInt T) (.bool f)/\h.get? T=some oT/\T≠z/\T≠TO/\T≠i1/\T≠i2/\T≠S
 ti:IsPair h TI (.ref i1) (.ref i2)
 to:∃ a b,IsPair h TO a b
 it1:h.IsListIter i1 l1 i
 it2:h.IsListIter i2 l2 i
 ls1:h.IsList l1 xs
 ls2:h.IsList l2 ys
theorem ZSt.keep {h h':Heap} {S:Addr} {i:Nat} (q:ZSt h z TI TO i1 i2 l1 l2 S xs ys i) (k:∀ c o,c≠S->h.get? c=some o->h'.get? c=some o) (hS:∀ c∈[z,TI,TO,i1,i2,l1,l2],c≠S):ZSt h' z TI TO i1 i2 l1 l2 S xs ys i where
 at0:=by
  have e:=hS z (by simp)
  rcases q.at0 with a | ⟨T,f,oT,a,b,c⟩
  ·exact .inl (k _ _ e a)
  ·exact .inr ⟨T,f,oT,k _ _ e a,k _ _ c.2.2.2.2 b,c⟩
 ti:=k _ _ (hS TI (by simp)) q.ti
 to:=let ⟨a,b,e⟩:=q.to; ⟨a,b,k _ _ (hS TO (by simp)) e⟩
 it1:=q.it1.at fun o e=>k _ o (hS i1 (by simp)) e
 it2:=q.it2.at fun o e=>k _ o (hS i2 (by simp)) e
 ls1:=q.ls1.at fun o e=>k _ o (hS l1 (by simp)) e
 ls2:=q.ls2.at fun o e=>k _ o (hS l2 (by simp)) e
theorem st_item {S:Addr} {i:Nat} {Q:Option Value->Shared->Prop} (D:ZipApart z TI TO i1 i2 l1 l2) (q:ZSt s.heap z TI TO i1 i2 l1 l2 S xs ys i) (hS:S<s.heap.objs.size) (hx:xs[i]?=some x) (hy:ys[i]?=some y)
  (hQ:∀ h',ZSt h' z TI TO i1 i2 l1 l2 S xs ys (i+1)->IsPair h' s.heap.objs.size x y->h'.objs.size=s.heap.objs.size+1 ->
   (∀ c o,c≠z->c≠TO->c≠i1->c≠i2->s.heap.get? c=some o->h'.get? c=some o)->Q (some (.ref s.heap.objs.size)) { s with heap:=h' }) :
  wpAny (model prog w) A (pyNext (.ref z)) Q E s:=by
 have lt:∀ {c o},s.heap.get? c=some o->s.heap.objs.size≠c:=fun e=>Nat.ne_of_gt (Heap.lt_size e)
 obtain ⟨a,b,hTO⟩:=q.to
 have e1:s.heap.objs.size≠i1:=by obtain ⟨_,e,_⟩:=q.it1; exact lt e
 have e2:s.heap.objs.size≠i2:=by obtain ⟨_,e,_⟩:=q.it2; exact lt e
 rcases q.at0 with hz | ⟨T,f,oT,hz,hT,t1,t2,t3,t4,t5⟩
 ·refine wpAny_pyNext_zip_item D hz q.ti hTO q.it1 q.it2 q.ls1 q.ls2 hx hy fun h' a1 a2 a3 a4 a5 a6 hk=>hQ h' ⟨.inr ⟨_,false,_,a1,a5,lt hz,lt hTO,e1,e2,Nat.ne_of_gt hS⟩, ?_,⟨_,_,a2⟩,a3,a4, ?_, ?_⟩ a5 a6 hk
  ·exact hk _ _ D.TIz D.TITO D.TIi1 D.TIi2 q.ti
  ·exact q.ls1.at fun o e=>hk _ o D.l1z D.l1TO D.l1i1 D.l1i2 e
  ·exact q.ls2.at fun o e=>hk _ o D.l2z D.l2TO D.l2i1 D.l2i2 e
 ·have ty:s.TypeIs (.ref z) "zip" := ⟨_,hz,rfl⟩
  unfold pyNext
  refine wpAny_bind (wpAny_attempt (wpAny_callSpecial?_slot (name:=Str.ofString "__next__") ty F.slot_zip_next (wpAny_call_entry F.slot_zip_next ty F.entry_zip_next ?_ (F.args_zip_next_1 _))))
  refine more_item D hz hT q.ti q.it1 q.it2 q.ls1 q.ls2 hx hy fun h' a1 a3 a4 a5 a6 hk=>wpAny_pure ?_
  refine hQ h' ⟨.inr ⟨T,true,oT,a1,hk _ _ t1 t3 t4 hT,t1,t2,t3,t4,t5⟩, ?_,⟨a,b, ?_⟩,a3,a4, ?_, ?_⟩ a5 a6 fun c o c1 _ c3 c4 e=>hk c o c1 c3 c4 e
  ·exact hk _ _ D.TIz D.TIi1 D.TIi2 q.ti
  ·exact hk _ _ D.TOz D.TOi1 D.TOi2 hTO
  ·exact q.ls1.at fun o e=>hk _ o D.l1z D.l1i1 D.l1i2 e
  ·exact q.ls2.at fun o e=>hk _ o D.l2z D.l2i1 D.l2i2 e
theorem st_done {S:Addr} {i:Nat} {Q:Option Value->Shared->Prop} (hh:A.handled=none) (D:ZipApart z TI TO i1 i2 l1 l2) (q:ZSt s.heap z TI TO i1 i2 l1 l2 S xs ys i) (hend:xs[i]?=none\/ys[i]?=none)
  (hQ:∀ h',(∀ c o,c≠z->c≠TO->c≠i1->c≠i2->s.heap.get? c=some o->h'.get? c=some o)->Q none { s with heap:=h' }) :
  wpAny (model prog w) A (pyNext (.ref z)) Q E s:=by
 obtain ⟨a,b,hTO⟩:=q.to
 rcases q.at0 with hz | ⟨T,f,oT,hz,hT,t1,t2,t3,t4,t5⟩
 ·exact wpAny_pyNext_zip_end hh D hz q.ti hTO q.it1 q.it2 q.ls1 q.ls2 hend hQ
 ·have ty:s.TypeIs (.ref z) "zip" := ⟨_,hz,rfl⟩
  unfold pyNext
  refine wpAny_bind (wpAny_attempt (wpAny_callSpecial?_slot (name:=Str.ofString "__next__") ty F.slot_zip_next (wpAny_call_entry F.slot_zip_next ty F.entry_zip_next ?_ (F.args_zip_next_1 _))))
  refine more_end hh D hz hT q.ti q.it1 q.it2 q.ls1 q.ls2 hend fun h' e hk he=>?_
  obtain ⟨o,ho,hc⟩:=he
  refine wpAny_bind (wpAny_isInstance (T:="StopIteration") (b:=true) ⟨o,ho,hc⟩ isSubtype_stop ?_)
  exact wpAny_pure (hQ _ fun c o c1 _ c3 c4 e=>hk c o c1 c3 c4 e)
end
theorem zip_no_len:typeLookup (.type "zip") "__len__" = pure none:=by rw [typeLookup_type,builtinLookup_eq_fast]; kernel_rfl
theorem zip_no_hint:typeLookup (.type "zip") "__length_hint__" = pure none:=by rw [typeLookup_type,builtinLookup_eq_fast]; kernel_rfl
section
variable {prog:Program} {w:World} {A:Around} {R:Result->Shared->Prop} {E:Value->Shared->Prop} {s:Shared} {z TI TO i1 i2 l1 l2 S:Addr} {xs ys:Array Value}
theorem hint {Q:Bool->Shared->Prop} (hT:s.TypeIs (.ref z) "zip") (h:Q true s):wpAny (model prog w) A (Builtin.List.listLengthHint (.ref z)) Q E s:=by
 unfold Builtin.List.listLengthHint
 refine wpAny_bind (wpAny_specialOf hT zip_no_len ?_)
 wp_delta
 refine wpAny_ite_split (fun z=>absurd z (by decide)) fun _=>?_
 refine wpAny_bind (wpAny_specialOf hT zip_no_hint ?_)
 exact wpAny_pure h
structure Made (h:Heap) (lo:Addr) (xs ys:Array Value) (as:List Addr):Prop where
 rise:as.Pairwise (· < ·)
 above:∀ a∈as,lo<=a
 pairs:∀ (j:Nat) (a:Addr),as[j]?=some a->∃ x y,xs[j]?=some x/\ys[j]?=some y/\IsPair h a x y
theorem Made.there {h:Heap} {lo:Addr} {as:List Addr} (g:Made h lo xs ys as) {a:Addr} (ha:a∈as):a<h.objs.size:=by
 obtain ⟨j,hj⟩:=List.mem_iff_getElem?.mp ha
 obtain ⟨_,_,_,_,e⟩:=g.pairs j a hj
 exact Heap.lt_size e
theorem Made.keep {h h':Heap} {lo:Addr} {as:List Addr} (g:Made h lo xs ys as) (k:∀ c o,lo<=c->h.get? c=some o->h'.get? c=some o):Made h' lo xs ys as :=
 ⟨g.rise,g.above,fun j a e=>by
  obtain ⟨x,y,e1,e2,e3⟩:=g.pairs j a e
  exact ⟨x,y,e1,e2,k a _ (g.above a (List.mem_of_getElem? e)) e3⟩⟩
theorem Made.more {h:Heap} {lo:Addr} {as:List Addr} {x y:Value} {b:Addr} (g:Made h lo xs ys as) (hb:IsPair h b x y) (up:∀ a∈as,a<b) (hl:lo<=b) (hx:xs[as.length]?=some x) (hy:ys[as.length]?=some y):Made h lo xs ys (as++[b]):=by
 refine ⟨List.pairwise_append.mpr ⟨g.rise,List.pairwise_singleton _ _,fun a ha c hc=>by rw [List.mem_singleton.mp hc]; exact up a ha⟩,fun a ha=>?_,fun j a e=>?_⟩
 ·rcases List.mem_append.mp ha with q | q
  ·exact g.above a q
  ·rw [List.mem_singleton.mp q]; exact hl
 ·by_cases hj:j<as.length
  ·rw [List.getElem?_append_left hj] at e
   exact g.pairs j a e
  ·have hj':j=as.length:=by
    have:=(List.getElem?_eq_some_iff.mp e).1
    rw [List.length_append,List.length_singleton] at this
    omega
   subst hj'
   have hba:b=a:=by simpa using e
   subst hba
   exact ⟨x,y,hx,hy,hb⟩
theorem loop (hh:A.handled=none) (D:ZipApart z TI TO i1 i2 l1 l2) (hS:∀ c∈[z,TI,TO,i1,i2,l1,l2],c≠S) (res:Value) (lo:Addr) (hlo:∀ c∈[S,z,TI,TO,i1,i2],c<lo) (hn:xs.size<=sizeLine) {h₁:Heap}
  (fin:∀ h' tk acc c as,(∀ b o,b ∉ [S,z,TO,i1,i2]->h₁.get? b=some o->h'.get? b=some o)->h'.get? S=some { cls:=.type "list",dict:=none,data:=.seq acc c,slots:=#[] }->as.length=min xs.size ys.size->Made h' lo xs ys as ->
   acc.toList=as.map Value.ref->R (.ok (.ret res)) { s with heap:=h',toks:=tk }) :
  ∀ (k i:Nat) (h:Heap) (tk c:Nat) (acc:Array Value) (as:List Addr),min xs.size ys.size - i=k->i<=min xs.size ys.size->ZSt h z TI TO i1 i2 l1 l2 S xs ys i->(∀ b o,b ∉ [S,z,TO,i1,i2]->h₁.get? b=some o->h.get? b=some o) ->
   h.get? S=some { cls:=.type "list",dict:=none,data:=.seq acc c,slots:=#[] }->acc.toList=as.map Value.ref->as.length=i->Made h lo xs ys as->lo<=h.objs.size ->
   codeAny (model prog w) A (.builtin "list.extend.loop" ⟨[.ref S,.ref z,res],[]⟩) R { s with heap:=h,toks:=tk }:=by
 have nb:∀ {b:Addr},b ∉ [S,z,TO,i1,i2]->b≠S/\b≠z/\b≠TO/\b≠i1/\b≠i2:=fun q=>by simpa [not_or] using q
 have nlo:∀ {b:Addr},lo<=b->b≠S/\b≠z/\b≠TO/\b≠i1/\b≠i2:=fun q =>
  have f:∀ c∈[S,z,TI,TO,i1,i2],_:=fun c hc=>Nat.ne_of_gt (Nat.lt_of_lt_of_le (hlo c hc) q)
  ⟨f S (by simp),f z (by simp),f TO (by simp),f i1 (by simp),f i2 (by simp)⟩
 have Sn:S≠z/\S≠TO/\S≠i1/\S≠i2:=⟨(hS z (by simp)).symm,(hS TO (by simp)).symm,(hS i1 (by simp)).symm,(hS i2 (by simp)).symm⟩
 intro k
 induction k with
 | zero =>
  intro i h tk c acc as hk hi st kp hSo hacc hal G hsz
  have hend:xs[i]?=none\/ys[i]?=none:=by
   have e:i=min xs.size ys.size:=by omega
   rcases Nat.le_total xs.size ys.size with q | q
   ·exact .inl (Array.getElem?_eq_none (by omega))
   ·exact .inr (Array.getElem?_eq_none (by omega))
  refine codeAny_builtin PySem.F.entry_extend_loop ?_
  rw [Around.under_plainId PySem.F.plain_extend_loop _]
  change wpAny _ A.in1 (pyNext (.ref z) >>= _) _ _ _
  refine wpAny_bind (st_done (s:={ s with heap:=h,toks:=tk }) (A:=A.in1) hh D st hend fun h' he=>?_)
  exact wpAny_pure (fin h' tk acc c as (fun b o q e=>he b o (nb q).2.1 (nb q).2.2.1 (nb q).2.2.2.1 (nb q).2.2.2.2 (kp b o q e)) (he S _ Sn.1 Sn.2.1 Sn.2.2.1 Sn.2.2.2 hSo) (by omega)
   (G.keep fun b o q e=>he b o (nlo q).2.1 (nlo q).2.2.1 (nlo q).2.2.2.1 (nlo q).2.2.2.2 e) hacc)
 | succ k ih =>
  intro i h tk c acc as hk hi st kp hSo hacc hal G hsz
  have l1':i<xs.size:=by omega
  have l2':i<ys.size:=by omega
  have asz:acc.size=i:=by rw [<-Array.length_toList,hacc,List.length_map,hal]
  refine codeAny_builtin PySem.F.entry_extend_loop ?_
  rw [Around.under_plainId PySem.F.plain_extend_loop _]
  change wpAny _ A.in1 (pyNext (.ref z) >>= _) _ _ _
  refine wpAny_bind (st_item (s:={ s with heap:=h,toks:=tk }) (A:=A.in1) D st (Heap.lt_size hSo) (Array.getElem?_eq_getElem l1') (Array.getElem?_eq_getElem l2') fun h' st' ht hz hkp=>?_)
  dsimp only at ht hz hkp ⊢
  have hS':=hkp S _ Sn.1 Sn.2.1 Sn.2.2.1 Sn.2.2.2 hSo
  have up:∀ b o,b≠S->h'.get? b=some o->(h'.update S (Obj.mapSeq (·.push (Value.ref h.objs.size)))).get? b=some o:=fun b o hb e=>(Heap.get?_update_other _ _ (Ne.symm hb)).trans e
  have hSl:S<h.objs.size:=Heap.lt_size hSo
  change wpAny _ A.in1 (updateSeq S (·.push (Value.ref h.objs.size)) >>= _) _ _ _
  refine wpAny_bind ?_
  have G1:Made (h'.update S (Obj.mapSeq (·.push (Value.ref h.objs.size)))) lo xs ys (as++[h.objs.size]):=by
   have g0:Made (h'.update S (Obj.mapSeq (·.push (Value.ref h.objs.size)))) lo xs ys as:=G.keep fun b o q e=>up b o (nlo q).1 (hkp b o (nlo q).2.1 (nlo q).2.2.1 (nlo q).2.2.2.1 (nlo q).2.2.2.2 e)
   refine g0.more (up _ _ (Nat.ne_of_gt hSl) ht) (fun a ha=>G.there ha) hsz ?_ ?_
   ·rw [hal]; exact Array.getElem?_eq_getElem l1'
   ·rw [hal]; exact Array.getElem?_eq_getElem l2'
  refine wpAny_updateSeq hS' rfl (wpAny_pure ⟨plainId_quiet PySem.F.plain_extend_loop _,ih (i+1) _ tk _ (acc.push (Value.ref h.objs.size)) (as++[h.objs.size]) (by omega) (by omega) (st'.keep (fun c o q e=>up c o q e) hS) (fun b o q e=>up b o (nb q).1 (hkp b o (nb q).2.1 (nb q).2.2.1 (nb q).2.2.2.1 (nb q).2.2.2.2 (kp b o q e))) (Heap.get?_update_self _ hS' rfl) (by rw [Array.toList_push,hacc,List.map_append]; rfl) (by rw [List.length_append,hal]; rfl) G1 ?_⟩) (by rw [asz]; omega) (by show (acc.push (Value.ref h.objs.size)).size<=sizeLine+1; rw [Array.size_push,asz]; omega)
  exact Nat.le_trans hsz (Nat.le_of_lt (Heap.lt_size (up _ _ (Nat.ne_of_gt hSl) ht)))
theorem extend (hh:A.handled=none) (D:ZipApart z TI TO i1 i2 l1 l2) (hS:∀ c∈[z,TI,TO,i1,i2,l1,l2],c≠S) (res:Value) (hn:xs.size<=sizeLine) {c₀:Nat} (st:ZSt s.heap z TI TO i1 i2 l1 l2 S xs ys 0) (hSo:s.heap.get? S=some { cls:=.type "list",data:=.seq #[] c₀ })
  (fin:∀ h' tk acc c as,(∀ b o,b ∉ [S,z,TO,i1,i2]->s.heap.get? b=some o->h'.get? b=some o)->h'.get? S=some { cls:=.type "list",dict:=none,data:=.seq acc c,slots:=#[] }->as.length=min xs.size ys.size->Made h' s.heap.objs.size xs ys as ->
   acc.toList=as.map Value.ref->R (.ok (.ret res)) { s with heap:=h',toks:=tk }) :
  wpAny (model prog w) A.in1 (Builtin.List.listExtendWith (.ref S) (.ref z) res)
   (fun fin s'=>match fin with | .done f=>R (.ok f) s' | .again c'=>c'.quiet=true/\codeAny (model prog w) A c' R s') (fun e s'=>R (.error e) s') s:=by
 have zt:∃ f0 f1,ZAt s.heap z TI TO f0 f1:=by
  rcases st.at0 with a | ⟨T,f,oT,a,_⟩
  ·exact ⟨_,_,a⟩
  ·exact ⟨_,_,a⟩
 obtain ⟨f0,f1,hz⟩:=zt
 obtain ⟨ta,tb,hTO⟩:=st.to
 have ty:s.TypeIs (.ref z) "zip" := ⟨_,hz,rfl⟩
 have hlo:∀ c∈[S,z,TI,TO,i1,i2],c<s.heap.objs.size:=fun c hc=>by
  have a1:=Heap.lt_size hSo
  have a2:=Heap.lt_size hz
  have a3:=Heap.lt_size st.ti
  have a4:=Heap.lt_size hTO
  obtain ⟨_,e1,_⟩:=st.it1
  obtain ⟨_,e2,_⟩:=st.it2
  have a5:=Heap.lt_size e1
  have a6:=Heap.lt_size e2
  simp only [List.mem_cons,List.not_mem_nil,or_false] at hc
  rcases hc with rfl | rfl | rfl | rfl | rfl | rfl <;> assumption
 unfold Builtin.List.listExtendWith
 refine wpAny_bind (wpAny_typeOf ty ?_)
 have n1:Builtin.List.listSameRef (.ref S) (.ref z)=false:=by
  simp only [Builtin.List.listSameRef,beq_eq_false_iff_ne]
  exact (hS z (by simp)).symm
 have n2:(Value.type "zip" == Value.type "list")=false:=by decide
 have n3:(Value.type "zip" == Value.type "tuple")=false:=by decide
 simp only [n1,n2,n3,Bool.or_false,Bool.false_eq_true,if_false]
 have it:∀ {Q:Value->Shared->Prop},Q (.ref z) s->wpAny (model prog w) A.in1 (pyIter (.ref z)) Q (fun e s'=>R (.error e) s') s:=fun q=>by
  refine wpAny_pyIter_slot ty F.slot_zip_iter (wpAny_call_entry F.slot_zip_iter ty F.entry_zip_iter ?_ (F.args_zip_iter_1 _))
  change wpAny _ _ (ret (.ref z)) _ _ s
  exact wpAny_pure ⟨_,rfl,"zip",_,ty,F.slot_zip_next.lookup,q⟩
 refine wpAny_bind (it ?_)
 refine wpAny_bind (wpAny_holding (hint ty ?_))
 simp only [Bool.true_or,if_true]
 refine wpAny_bind (wpAny_rule (wpAny_bind (m:=Builtin.List.listTouch (.ref S)) ?_))
 change wpAny (model prog w) _ (updateSeq S (·.push .none) >>= fun _=>updateSeq S (·.pop)) _ _ _
 refine wpAny_bind (wpAny_updateSeq hSo rfl ?_)
 have u1:=Heap.get?_update_self (Obj.mapSeq (·.push Value.none)) hSo rfl
 refine wpAny_updateSeq (hz:=by seq_fits) u1 rfl ?_
 have u2:=Heap.get?_update_self (Obj.mapSeq (·.pop)) u1 rfl
 have other:∀ b ob,b≠S->s.heap.get? b=some ob->((s.heap.update S (Obj.mapSeq (·.push Value.none))).update S (Obj.mapSeq (·.pop))).get? b=some ob:=fun b ob q e=>(Heap.get?_update_other _ _ (Ne.symm q)).trans ((Heap.get?_update_other _ _ (Ne.symm q)).trans e)
 refine wpAny_pure ⟨plainId_quiet PySem.F.plain_extend_loop _, ?_⟩
 exact loop (h₁:=s.heap) (s:=s) hh D hS res s.heap.objs.size hlo hn fin _ 0 _ s.toks _ #[] [] rfl (Nat.zero_le _) (st.keep (fun c o q e=>other c o q e) hS) (fun b o q e=>other b o (fun e'=>q (by rw [e']; exact List.mem_cons_self)) e) u2 rfl rfl
  ⟨List.Pairwise.nil,(fun _ ha=>nomatch ha),fun j a hj=>by simp at hj⟩ (by rw [Heap.size_update,Heap.size_update]; exact Nat.le_refl _)
theorem call_list {Q:Value->Shared->Prop} (hh:A.handled=none) (D:ZipApart z TI TO i1 i2 l1 l2) (hn:xs.size<=sizeLine) (hz:IsZip s.heap z TI TO .none) (hTI:IsPair s.heap TI (.ref i1) (.ref i2)) {a b:Value} (hTO:IsPair s.heap TO a b)
  (h1:s.heap.IsListIter i1 l1 0) (h2:s.heap.IsListIter i2 l2 0) (hl1:s.heap.IsList l1 xs) (hl2:s.heap.IsList l2 ys)
  (fin:∀ h' tk acc c as,(∀ b o,b ∉ [z,TO,i1,i2]->s.heap.get? b=some o->h'.get? b=some o)->h'.get? s.heap.objs.size=some { cls:=.type "list",dict:=none,data:=.seq acc c,slots:=#[] }->as.length=min xs.size ys.size->Made h' (s.heap.objs.size+1) xs ys as ->
   acc.toList=as.map Value.ref->Q (.ref s.heap.objs.size) { s with heap:=h',toks:=tk }) :
  wpAny (model prog w) A (call (.type "list") [.ref z]) Q E s:=by
 have lt:∀ {c o},s.heap.get? c=some o->c≠s.heap.objs.size:=fun e=>Nat.ne_of_lt (Heap.lt_size e)
 have pu:∀ {c o},s.heap.get? c=some o->(s.heap.push { cls:=.type "list",data:=.seq #[] }).get? c=some o:=fun e=>Heap.get?_push_of_some _ e
 have hS:∀ c∈[z,TI,TO,i1,i2,l1,l2],c≠s.heap.objs.size:=fun c hc=>by
  obtain ⟨_,e1,_⟩:=id h1
  obtain ⟨_,e2,_⟩:=id h2
  obtain ⟨_,e3,_⟩:=id hl1
  obtain ⟨_,e4,_⟩:=id hl2
  simp only [List.mem_cons,List.not_mem_nil,or_false] at hc
  rcases hc with rfl | rfl | rfl | rfl | rfl | rfl | rfl
  ·exact lt hz
  ·exact lt hTI
  ·exact lt hTO
  ·exact lt e1
  ·exact lt e2
  ·exact lt e3
  ·exact lt e4
 refine callType_codes (Q₁:=fun obj s₁=>obj=.ref s.heap.objs.size/\s₁={ s with heap:=s.heap.push { cls:=.type "list",data:=.seq #[] } }) PySem.F.called_list (PySem.F.typeCall_list_1 _) PySem.F.entry_list_init
  (code_list_new _ ⟨rfl,rfl⟩) fun obj s₁ q=>?_
 obtain ⟨rfl,rfl⟩:=q
 have at1:(s.heap.push { cls:=.type "list",data:=.seq #[] }).get? s.heap.objs.size=some { cls:=.type "list",data:=.seq #[] }:=Heap.get?_push_size _ rfl
 refine ⟨⟨_,at1,rfl⟩,PySem.F.args_list_init_2 _ _, ?_⟩
 change wpAny _ _ (do let old <-Builtin.List.listItems (.ref s.heap.objs.size); Builtin.List.listUpdate (.ref s.heap.objs.size) (fun _=>#[]); letGo old.toList.reverse; Builtin.List.listExtendWith (.ref s.heap.objs.size) (.ref z) .none) _ _ _
 refine wpAny_bind ?_
 unfold Builtin.List.listItems
 refine wpAny_bind (wpAny_seqItems at1 rfl (wpAny_pure ?_))
 change wpAny _ _ (updateSeq s.heap.objs.size (fun _=>#[]) >>= fun _=>letGo (#[]:Array Value).toList.reverse >>= fun _=>Builtin.List.listExtendWith (.ref s.heap.objs.size) (.ref z) .none) _ _ _
 refine wpAny_bind (wpAny_updateSeq at1 rfl ?_)
 have at2:=Heap.get?_update_self (Obj.mapSeq (fun _=>(#[]:Array Value))) at1 rfl
 have oth:∀ b o,s.heap.get? b=some o->((s.heap.push { cls:=.type "list",data:=.seq #[] }).update s.heap.objs.size (Obj.mapSeq (fun _=>(#[]:Array Value)))).get? b=some o :=
  fun b o e=>(Heap.get?_update_other _ _ (Ne.symm (lt e))).trans (pu e)
 refine wpAny_bind (wpAny_letGo ?_)
 refine extend (A:=A.in1) hh D hS .none hn ⟨.inl (oth _ _ hz),oth _ _ hTI,⟨a,b,oth _ _ hTO⟩,h1.at fun o e=>oth _ o e,h2.at fun o e=>oth _ o e,hl1.at fun o e=>oth _ o e,hl2.at fun o e=>oth _ o e⟩ at2 fun h' tk acc c as k1 k2 k3 k4 k5=>?_
 refine ⟨rfl,fin h' tk acc c as (fun b o q e=>k1 b o (fun m=>?_) (oth b o e)) k2 k3 ?_ k5⟩
 ·rcases List.mem_cons.mp m with m | m
  ·exact lt e m
  ·exact q m
 ·have e:((s.heap.push { cls:=.type "list",data:=.seq #[] }).update s.heap.objs.size (Obj.mapSeq (fun _=>(#[]:Array Value)))).objs.size=s.heap.objs.size+1:=by rw [Heap.size_update,Heap.size_push]
  rw [<-e]; exact k4
end
end ZipL
namespace L2
open PySem PySem.Spec PyProof.Rows
section
variable {X:Cx} {pins:List (Addr × Obj)} {σ:St} {H H':Hp} {s:Shared} {h':Heap}
theorem Zs.lays {t':Nat} (I:Zs X pins σ H s) (k:∀ b u,s.heap.get? b=some u->h'.get? b=some u) (old:∀ b,b<s.heap.objs.size->H' b=H b)
  (new:∀ b o,s.heap.objs.size<=b->H' b=some o->Vk X.prog X.w H' h' b o):Zs X pins σ H' { s with heap:=h',toks:=t' }:=by
 have up:∀ b o,H b=some o->H' b=some o:=fun b o e=>by rw [old b (I.hok.lt e)]; exact e
 refine I.un ⟨fun b o e _ _ _=>k b o e,fun b o e _ _ _=>⟨o.slots,k b o e⟩,fun b o e n _=>by rw [old b (Heap.lt_size e)]; exact n,fun b o e _=>⟨o,k b o e⟩,fun b xs e=>up b _ e,fun b o u e=>up b _ e,fun b ps e=>⟨#[],by rw [up b _ e]; simp⟩⟩ fun b o e=>?_
 by_cases hb:b<s.heap.objs.size
 ·rw [old b hb] at e
  exact (I.hok b o e).stay (fun c u _ q=>k c u q) (fun c q=>up c _ q) fun c xs q=>up c _ q
 ·exact new b o (Nat.le_of_not_lt hb) e
end
def AtPairs (H:Hp):List Addr->List V->List V->Prop
 | [],xs,ys=>xs=[]\/ys=[]
 | a::as,xs,ys=>∃ x xr y yr,xs=x::xr/\ys=y::yr/\H a=some (.tup [x,y])/\AtPairs H as xr yr
theorem AtPairs.of {H:Hp}:∀ {as:List Addr} {xs ys:List V},as.length=min xs.length ys.length->(∀ (j:Nat) (a:Addr),as[j]?=some a->∃ x y,xs[j]?=some x/\ys[j]?=some y/\H a=some (.tup [x,y]))->AtPairs H as xs ys
 | [],xs,ys,hl,_=>by
  cases xs with
  | nil=>exact .inl rfl
  | cons x xr =>
   cases ys with
   | nil=>exact .inr rfl
   | cons y yr=>simp at hl
 | a::as,xs,ys,hl,h=>by
  cases xs with
  | nil=>simp at hl
  | cons x xr =>
   cases ys with
   | nil=>simp at hl
   | cons y yr =>
    obtain ⟨x',y',e1,e2,e3⟩:=h 0 a rfl
    simp only [List.getElem?_cons_zero,Option.some.injEq] at e1 e2
    subst e1 e2
    refine ⟨x,xr,y,yr,rfl,rfl,e3,AtPairs.of (by simp only [List.length_cons] at hl; omega) fun j b e=>?_⟩
    obtain ⟨x'',y'',q1,q2,q3⟩:=h (j+1) b (by simpa using e)
    exact ⟨x'',y'',by simpa using q1,by simpa using q2,q3⟩
def layP (H:Hp) (n:Nat) (l:Addr) (as:List Addr) (xs ys:List V):Hp:=fun b =>
 if b<n then H b else if b=l then some (.lst (as.map V.ref)) else if b∈as then some (.tup [xs.getD (as.idxOf b) .non,ys.getD (as.idxOf b) .non]) else none
theorem same_ix {as:List Addr} {i j:Nat} {c:Addr} (r:as.Pairwise (· < ·)) (h:as[i]?=some c) (h':as[j]?=some c):i=j:=by
 obtain ⟨h1,e1⟩:=List.getElem?_eq_some_iff.mp h
 obtain ⟨h2,e2⟩:=List.getElem?_eq_some_iff.mp h'
 have q:=List.pairwise_iff_getElem.mp r
 rcases Nat.lt_trichotomy i j with z | z | z
 ·have:=q i j h1 h2 z
  rw [e1,e2] at this
  exact absurd this (Nat.lt_irrefl _)
 ·exact z
 ·have:=q j i h2 h1 z
  rw [e1,e2] at this
  exact absurd this (Nat.lt_irrefl _)
theorem ix_same {as:List Addr} {j:Nat} {c:Addr} (r:as.Pairwise (· < ·)) (h:as[j]?=some c):as.idxOf c=j:=by
 have m:c∈as:=List.mem_of_getElem? h
 have hl:=List.idxOf_lt_length_of_mem m
 exact same_ix r (by rw [List.getElem?_eq_getElem hl,List.getElem_idxOf hl]) h
theorem vals_at:∀ {xs:List V} {us:List Value} {j:Nat} {u:Value},Z0 xs us->us[j]?=some u->Yq (xs.getD j .non) u
 | _,_,_,_,.nil,e=>by simp at e
 | _,_,0,_,.cons r _,e=>by simp at e; subst e; exact r
 | _,_,j+1,_,.cons _ t,e=>by
  have:=vals_at (j:=j) t (by simpa using e)
  simpa using this
theorem vals_refs:∀ as:List Addr,Z0 (as.map V.ref) (as.map Value.ref)
 | []=>.nil
 | a::as=>.cons rfl (vals_refs as)
def tZip (K:W.Frag) (t:TA):TE:=fun σ H Q=>t σ H fun vs H1=>∃ p q xs ys,vs=[.ref p,.ref q]/\Yc K H1 p xs/\Yc K H1 q ys /\
 ∀ (l:Addr) (as:List Addr) (H':Hp),H1 l=none->Zt H1 H'->H' l=some (.lst (as.map V.ref))->AtPairs H' as xs ys->Q (.ref l) H'
section
variable {X:Cx} {x y:Str} {p p2 pos pos2:Pos} {a b:Expr} {t:TA}
theorem pe_listZip (hc:X.calm=true) (hg:Gl X "list") (hm:X.mg "list" = none) (hgz:Gl X "zip") (hmz:X.mg "zip" = none) (ha:PA X [a,b] t)
  (he:starEach [.Call (.Name "zip" p2) [a,b] [] pos2] X.env=[(false,eval (.Call (.Name "zip" p2) [a,b] [] pos2) X.env)]:=by rfl)
  (he2:starEach [a,b] X.env=(false,eval a X.env)::starEach [b] X.env:=by rfl) (hpl:(backTo pos2 (starEach [b] X.env)).any (·.1)=false:=by rfl) :
  PE X (.Call (.Name "list" p) [.Call (.Name "zip" p2) [a,b] [] pos2] [] pos) (tZip X.K t):=by
 intro pins s σ H Q I h
 refine wpAny_Call_Name_kw (Ud I hg hm (by decide +kernel:bootBuiltins "list" = some (.type "list")) ?_ (by decide) (by decide))
 refine callWith_type1 ?_ he rfl
 rw [he]
 change wpAny _ _ (spliced ((false,eval (.Call (.Name "zip" p2) [a,b] [] pos2) X.env)::[])) _ _ s
 refine Calls.spliced_cons ?_
 refine wpAny_Call_Name_kw (Ud I hgz hmz (by decide +kernel:bootBuiltins "zip" = some (.type "zip")) ?_ (by decide) (by decide))
 refine callWith_type1 (Vv (ha pos2 pins s σ H _ I h) fun us s1 ⟨vs,H1,I1,r1,q1⟩=>?_) he2 hpl
 obtain ⟨l1,l2,xs,ys,rfl,hx,hy,q⟩:=q1
 obtain ⟨u1,u2,rfl,e1,e2⟩:=vals2 r1
 cases e1
 cases e2
 obtain ⟨is1,v1,pl1,z1⟩:=I1.list hx
 obtain ⟨is2,v2,pl2,z2⟩:=I1.list hy
 have n1:l1<s1.heap.objs.size:=by obtain ⟨_,e,_⟩:=pl1.isList; exact Heap.lt_size e
 have n2:l2<s1.heap.objs.size:=by obtain ⟨_,e,_⟩:=pl2.isList; exact Heap.lt_size e
 refine call_zip_2 pl1.isList pl2.isList fun h2 b1 b2 b3 b4 b5 b6 k2=>?_
 refine Calls.spliced_nil ?_
 refine ZipL.call_list (s:={ s1 with heap:=h2 }) (I1.ok.hd hc) (zipApart_new n1 n2) (by rw [List.size_toArray, <-v1.length]; exact z1) b1 b2 b3 b4 b5 (pl1.isList.at fun o e=>k2 _ o e) (pl2.isList.at fun o e=>k2 _ o e) fun h3 tk acc cc as k3 at3 al mk hacc=>?_
 dsimp only at at3 mk k3
 rw [b6] at at3 mk
 have kk:∀ c o,s1.heap.get? c=some o->h3.get? c=some o:=fun c o e=>by
  refine k3 c o (fun m=>?_) (k2 c o e)
  simp only [List.mem_cons,List.not_mem_nil,or_false] at m
  rcases m with m | m | m | m
  ·exact Nat.ne_of_lt (Nat.lt_of_lt_of_le (Heap.lt_size e) (Nat.le_add_right _ _)) m
  ·exact Nat.ne_of_lt (Nat.lt_of_lt_of_le (Heap.lt_size e) (Nat.le_add_right _ _)) m
  ·exact Nat.ne_of_lt (Heap.lt_size e) m
  ·exact Nat.ne_of_lt (Nat.lt_of_lt_of_le (Heap.lt_size e) (Nat.le_add_right _ _)) m
 have lz:as.length<=sizeLine:=by
  rw [al]
  exact Nat.le_trans (Nat.min_le_left _ _) (by rw [List.size_toArray, <-v1.length]; exact z1)
 have new:∀ c o,s1.heap.objs.size<=c->layP H1 s1.heap.objs.size (s1.heap.objs.size+5) as xs ys c=some o->Vk X.prog X.w (layP H1 s1.heap.objs.size (s1.heap.objs.size+5) as xs ys) h3 c o:=fun c o hc' e=>by
  unfold layP at e
  rw [if_neg (Nat.not_lt_of_le hc')] at e
  by_cases hl:c=s1.heap.objs.size+5
  ·rw [if_pos hl] at e
   cases e
   refine ⟨by rw [List.length_map]; exact lz,acc.toList,cc, ?_, ?_⟩
   ·rw [hacc]
    exact vals_refs as
   ·rw [hl]
    exact at3
  ·rw [if_neg hl] at e
   by_cases hm':c∈as
   ·rw [if_pos hm'] at e
    cases e
    obtain ⟨j,hj⟩:=List.mem_iff_getElem?.mp hm'
    obtain ⟨x,y,g1,g2,g3⟩:=mk.pairs j c hj
    rw [ix_same mk.rise hj]
    refine ⟨by show 2<=sizeLine; decide,[x,y],.cons (vals_at v1 (by simpa using g1)) (.cons (vals_at v2 (by simpa using g2)) .nil),⟨_,g3,rfl,_,rfl⟩⟩
   ·rw [if_neg hm'] at e
    cases e
 have J:=I1.lays (H':=layP H1 s1.heap.objs.size (s1.heap.objs.size+5) as xs ys) (t':=tk) kk (fun c hc'=>by unfold layP; rw [if_pos hc']) new
 have nl:¬ (s1.heap.objs.size+5<s1.heap.objs.size):=Nat.not_lt_of_le (Nat.le_add_right _ _)
 refine ⟨.ref (s1.heap.objs.size+5),_,J,by rw [b6]; rfl,q _ as _ (I1.hok.fresh (Nat.le_add_right _ _)) (fun c o e=>?_) ?_ (AtPairs.of ?_ fun j a hj=>?_)⟩
 ·unfold layP
  rw [if_pos (I1.hok.lt e)]
  exact e
 ·unfold layP
  rw [if_neg nl,if_pos rfl]
 ·rw [al,List.size_toArray,List.size_toArray,v1.length,v2.length]
 ·have ab:=mk.above a (List.mem_of_getElem? hj)
  obtain ⟨x,y,g1,g2,g3⟩:=mk.pairs j a hj
  have c1:j<xs.length:=by rw [v1.length]; have:=(Array.getElem?_eq_some_iff.mp g1).1; simpa using this
  have c2:j<ys.length:=by rw [v2.length]; have:=(Array.getElem?_eq_some_iff.mp g2).1; simpa using this
  refine ⟨xs[j],ys[j],List.getElem?_eq_getElem c1,List.getElem?_eq_getElem c2, ?_⟩
  unfold layP
  have a1:s1.heap.objs.size+5<a:=Nat.lt_of_lt_of_le (Nat.lt_succ_self _) ab
  rw [if_neg (Nat.not_lt_of_le (Nat.le_trans (Nat.le_add_right _ _) (Nat.le_of_lt a1))),if_neg (Nat.ne_of_gt a1),if_pos (List.mem_of_getElem? hj),ix_same mk.rise hj,List.getD_eq_getElem?_getD,List.getD_eq_getElem?_getD,List.getElem?_eq_getElem c1,List.getElem?_eq_getElem c2]
  rfl
theorem strsAre_of {ss:List Str}:∀ {us:List Value},Z0 (ss.map V.str) us->StrsAre us ss:=by
 induction ss with
 | nil=>intro us r; cases r; exact .nil
 | cons x xs ih =>
  intro us r
  cases r with
  | cons e t =>
   obtain ⟨tk,rfl⟩:=e
   exact .cons x tk (ih t)
def rJoin (K:W.Frag):V->List V->Hp->VK->Prop:=fun x vs H Q=>∃ (sep:Str) (p:Addr) (ss:List Str),x=.str sep/\vs=[.ref p]/\Yc K H p (ss.map V.str)/\(ss.map (·.length)).sum+ss.length * sep.length<=16777216/\Q (.str (Txt.join sep ss)) H
theorem mt_join:MtM X "str.join" (rJoin X.K):=by
 intro pins s σ H x vs v us Q I rx rv h
 obtain ⟨sep,p,ss,rfl,rfl,hq,hz,q⟩:=h
 obtain ⟨t,rfl⟩:=rx
 obtain ⟨u,rfl,ru⟩:=rv.one
 cases ru
 obtain ⟨its,r,pl,_⟩:=I.list hq
 exact join_list pl.isList (strsAre_of r) hz fun t' k=>⟨.str _,H,I.tok _,⟨t',rfl⟩,q⟩
end
def Fn (P:Program) (w:World) (K:W.Frag) (mg:Str->Option Value) (base:Heap) (k:Nat) (x:Str) (ps:List Str) (sp:Sp):Prop :=
 ∃ f fd,Yj P w K mg base CX0 k f fd ps sp/\Vc K fd ps []/\W.keepIn K (.ref f)=true/\mg x=some (.ref f)
section
variable {X:Cx} {k:Nat} {x:Str} {ps:List Str} {sp:Sp} {p pos:Pos} {e:Expr} {es:List Expr} {t:TA}
theorem Zy (G:Fn X.prog X.w X.K X.mg X.base k x ps sp) (hr:Vm k X.A) (hg:Gl X x) (ha:PA X (e::es) t) (hdb:(x == ("__debug__" : Str))=false:=by decide)
  (he:starEach (e::es) X.env=(false,eval e X.env)::starEach es X.env:=by rfl) (hpl:(backTo pos (starEach es X.env)).any (·.1)=false:=by rfl) :
  PE X (.Call (.Name x p) (e::es) [] pos) (tCall sp [] E0 t):=by
 obtain ⟨f,fd,F,b,kp,m⟩:=G
 exact pe_call F hr hg m kp b .nil pass0 ha hdb he hpl
theorem Yj.any {P:Program} {w:World} {K:W.Frag} {mg:Str->Option Value} {base:Heap} {CX:CXT} {k:Nat} {f:Addr} {fd:FuncData} {ps:List Str} {ι:Type} {C:ι->Prop} {sp:ι->Sp} (h:∀ i,C i->Yj P w K mg base CX k f fd ps (sp i)) :
  Yj P w K mg base CX k f fd ps (fun vs H Q E=>∃ i,C i/\sp i vs H Q E) :=
 ⟨fun vs H Q E ⟨i,c,q⟩=>(h i c).len vs H Q E q,fun A outer s H args us vs Q E hr he hb hv ⟨i,c,q⟩=>(h i c).run A outer s H args us vs Q E hr he hb hv q⟩
end
def Up (K:W.Frag) (H H':Hp):Prop:=∀ a xs,Yg K H a xs->Yg K H' a xs
theorem Up.refl {K:W.Frag} (H:Hp):Up K H H:=fun _ _ h=>h
theorem Up.trans {K:W.Frag} {H H1 H2:Hp} (a:Up K H H1) (b:Up K H1 H2):Up K H H2:=fun c xs h=>b c xs (a c xs h)
theorem Zt.up {K:W.Frag} {H H':Hp} (e:Zt H H'):Up K H H':=fun a xs h=>by
 rcases h with (h | ⟨o,h⟩) | h
 ·exact .inl (.inl (e _ _ h))
 ·exact .inl (.inr ⟨o,e _ _ h⟩)
 ·exact .inr h
theorem Zt.put {H H1:Hp} {p:Addr} {o:HO} (e:Zt H H1) (h:H p=none):Zt H (Z6 H1 p o):=fun b u q=>by
 rw [Zh (Z5 q h)]; exact e b u q
mutual
def noL:D->Bool
 | .tup xs=>noLs xs
 | .lst _=>false
 | _=>true
def noLs:List D->Bool
 | []=>true
 | d::ds=>noL d && noLs ds
end
mutual
theorem Y1.up {K:W.Frag} {H H':Hp} (u:Up K H H'):∀ (d:D) (v:V),noL d=true->Y1 K H d v->Y1 K H' d v
 | .non,v,_,h=>h
 | .bl b,v,_,h=>h
 | .int i,v,_,h=>h
 | .str x,v,_,h=>h
 | .tup ds,v,n,h=>by
  obtain ⟨a,vs,e,q,r⟩:=h
  exact ⟨a,vs,e,u a vs q,Zi.up u ds vs (by simpa [noL] using n) r⟩
 | .lst ds,v,n,h=>by simp [noL] at n
theorem Zi.up {K:W.Frag} {H H':Hp} (u:Up K H H'):∀ (ds:List D) (vs:List V),noLs ds=true->Zi K H ds vs->Zi K H' ds vs
 | [],vs,_,h=>h
 | d::ds,vs,n,h=>by
  obtain ⟨v,r,e,q,t⟩:=h
  have n':noL d=true/\noLs ds=true:=by simpa [noLs] using n
  exact ⟨v,r,e,Y1.up u d v n'.1 q,Zi.up u ds r n'.2 t⟩
end
theorem noLs_all:∀ {ds:List D},(∀ d∈ds,noL d=true)->noLs ds=true
 | [],_=>rfl
 | d::ds,h=>by
  simp only [noLs,Bool.and_eq_true]
  exact ⟨h d List.mem_cons_self,noLs_all fun e m=>h e (List.mem_cons_of_mem _ m)⟩
theorem noLs_mem:∀ {ds:List D} {d:D},noLs ds=true->d∈ds->noL d=true
 | e::ds,d,h,m=>by
  have h':noL e=true/\noLs ds=true:=by simpa [noLs] using h
  rcases List.mem_cons.mp m with rfl | m
  ·exact h'.1
  ·exact noLs_mem h'.2 m
theorem Zi.append {K:W.Frag} {H:Hp}:∀ {ds es:List D} {vs ws:List V},Zi K H ds vs->Zi K H es ws->Zi K H (ds++es) (vs++ws)
 | [],es,vs,ws,h,h'=>by
  have e:vs=[]:=h
  subst e
  exact h'
 | d::ds,es,vs,ws,h,h'=>by
  obtain ⟨v,r,e,q,t⟩:=h
  subst e
  exact ⟨v,r++ws,rfl,q,Zi.append t h'⟩
theorem Zi.one {K:W.Frag} {H:Hp} {d:D} {v:V} (h:Y1 K H d v):Zi K H [d] [v]:=⟨v,[],rfl,h,rfl⟩
theorem Zi.two {K:W.Frag} {H:Hp} {d e:D} {v u:V} (h:Y1 K H d v) (h':Y1 K H e u):Zi K H [d,e] [v,u]:=⟨v,[u],rfl,h,u,[],rfl,h',rfl⟩
theorem Zi.take {K:W.Frag} {H:Hp}:∀ {ds:List D} {vs:List V} (n:Nat),Zi K H ds vs->Zi K H (ds.take n) (vs.take n)
 | ds,vs,0,_=>rfl
 | [],vs,n+1,h=>by
  have e:vs=[]:=h
  subst e
  rfl
 | d::ds,vs,n+1,h=>by
  obtain ⟨v,r,e,q,t⟩:=h
  subst e
  exact ⟨v,r.take n,rfl,q,Zi.take n t⟩
def Ya:List D->List D->List D
 | a::as,b::bs=>.tup [a,b]::Ya as bs
 | _,_=>[]
theorem Zi.pairs {K:W.Frag} {H:Hp}:∀ {as:List Addr} {xs ys:List V} {ds es:List D},AtPairs H as xs ys->Zi K H ds xs->Zi K H es ys->Zi K H (Ya ds es) (as.map V.ref)
 | [],xs,ys,ds,es,h,h1,h2=>by
  rcases (show xs=[]\/ys=[] from h) with e | e
  ·subst e
   cases ds with
   | nil=>rfl
   | cons d ds=>obtain ⟨_,_,e,_⟩:=h1; cases e
  ·subst e
   cases es with
   | nil=>cases ds <;> rfl
   | cons d es=>obtain ⟨_,_,e,_⟩:=h2; cases e
 | a::as,xs,ys,ds,es,h,h1,h2=>by
  obtain ⟨x,xr,y,yr,rfl,rfl,ha,ht⟩:=h
  cases ds with
  | nil=>cases (show x::xr=[] from h1)
  | cons d ds =>
   cases es with
   | nil=>cases (show y::yr=[] from h2)
   | cons e es =>
    obtain ⟨_,_,q,i1,t1⟩:=h1
    cases q
    obtain ⟨_,_,q,i2,t2⟩:=h2
    cases q
    exact ⟨.ref a,as.map V.ref,rfl,⟨a,_,rfl,Yg.of ha,Zi.two i1 i2⟩,Zi.pairs ht t1 t2⟩
def Feed (H:Hp) (l:Addr):Prop:=∃ a b c d:Int,H l=some (.lst [.int a,.int b,.int c,.int d])
structure Y7 (l:Addr) (H H':Hp):Prop where
 keep:∀ x o,x≠l->H x=some o->H' x=some o
 feed:Feed H' l
theorem Y7.refl {l:Addr} {H:Hp} (f:Feed H l):Y7 l H H:=⟨fun _ _ _ h=>h,f⟩
theorem Y7.trans {l:Addr} {H H1 H2:Hp} (a:Y7 l H H1) (b:Y7 l H1 H2):Y7 l H H2:=⟨fun x o n h=>b.keep x o n (a.keep x o n h),b.feed⟩
theorem Y7.free {l:Addr} {H H':Hp} (a:Y7 l H H') (f:Feed H l) {p:Addr} (h:H' p=none):H p=none:=by
 cases q:H p with
 | none=>rfl
 | some o =>
  by_cases e:p=l
  ·obtain ⟨_,_,_,_,z⟩:=a.feed
   rw [e,z] at h
   cases h
  ·rw [a.keep p o e q] at h
   cases h
theorem Feed.put {l p:Addr} {H:Hp} {o:HO} (f:Feed H l) (h:p≠l):Feed (Z6 H p o) l:=by
 obtain ⟨a,b,c,d,e⟩:=f
 exact ⟨a,b,c,d,by rw [Zh h.symm]; exact e⟩
theorem Feed.ne {l p:Addr} {H:Hp} (f:Feed H l) (h:H p=none):p≠l:=fun e=>by
 obtain ⟨a,b,c,d,q⟩:=f
 rw [e,q] at h
 cases h
theorem Y7.put {l p:Addr} {H H':Hp} {o:HO} (a:Y7 l H H') (n:p≠l) (h:H p=none):Y7 l H (Z6 H' p o) :=
 ⟨fun x u q e=>by rw [Zh (Z5 e h)]; exact a.keep x u q e,a.feed.put n⟩
theorem Y7.lay {l p:Addr} {H H':Hp} {o:HO} (a:Y7 l H H') (f:Feed H l) (h:H' p=none):Y7 l H (Z6 H' p o):=a.put (a.feed.ne h) (a.free f h)
theorem Y7.same {l:Addr} {H H1 H2:Hp} (a:Y7 l H H1) (b:Zt H1 H2):Y7 l H H2 :=
 ⟨fun x o n h=>b _ _ (a.keep x o n h),let ⟨x,y,z,u,e⟩:=a.feed; ⟨x,y,z,u,b _ _ e⟩⟩
theorem Y7.up {K:W.Frag} {l:Addr} {H H':Hp} (a:Y7 l H H') (f:Feed H l):Up K H H':=fun c xs h=>by
 have ne:∀ o,H c=some o->(∀ ys,o≠.lst ys)->c≠l:=fun o e n q=>by
  obtain ⟨_,_,_,_,z⟩:=f
  rw [q,z] at e
  cases e
  exact n _ rfl
 rcases h with (h | ⟨o,h⟩) | h
 ·exact .inl (.inl (a.keep _ _ (ne _ h fun _ z=>nomatch z) h))
 ·exact .inl (.inr ⟨o,a.keep _ _ (ne _ h fun _ z=>nomatch z) h⟩)
 ·exact .inr h
theorem up_put {K:W.Frag} {H:Hp} {p:Addr} {o:HO} (h:H p=none):Up K H (Z6 H p o):=Zt.up (fun b u q=>by rw [Zh (Z5 q h)]; exact q)
theorem up_set {K:W.Frag} {H:Hp} {p:Addr} {o:HO} {ys:List V} (h:H p=some (.lst ys)):Up K H (Z6 H p o):=fun c xs q=>by
 have ne:∀ u,H c=some u->(∀ ys,u≠.lst ys)->c≠p:=fun u e n z=>by
  rw [z,h] at e
  cases e
  exact n _ rfl
 rcases q with (q | ⟨u,q⟩) | q
 ·exact .inl (.inl (by rw [Zh (ne _ q fun _ z=>nomatch z)]; exact q))
 ·exact .inl (.inr ⟨u,by rw [Zh (ne _ q fun _ z=>nomatch z)]; exact q⟩)
 ·exact .inr q
structure Good where
 whole:Int->Prop
 text:Str->Prop
 name:Str->Prop
 num:Int->Prop
 names:List Str->Prop
 nums:List Int->Prop
def Itm (G:Good):Nat->D->Prop
 | 0,_=>False
 | k+1,d=>(∃ n,d=.tup [.str "whole",.int n]/\G.whole n)\/(∃ x,d=.tup [.str "text",.str x]/\G.text x) \/
   (∃ n e,d=.tup [.str "arm",.int n,e]/\G.num n/\Itm G k e)\/(∃ es,d=.tup [.str "row",.tup es]/\es.length<=3/\∀ e∈es,Itm G k e) \/
   (∃ ks es,d=.tup [.str "map",.tup (Ya (ks.map D.str) es)]/\ks.length=es.length/\es.length<=3/\G.names ks/\∀ e∈es,Itm G k e) \/
   (∃ ks es,d=.tup [.str "rec",.tup (Ya (ks.map D.int) es)]/\ks.length=es.length/\es.length<=3/\G.nums ks/\∀ e∈es,Itm G k e)
theorem noLs_pairs:∀ {as bs:List D},(∀ d∈as,noL d=true)->(∀ d∈bs,noL d=true)->noLs (Ya as bs)=true
 | [],_,_,_=>by simp [Ya,noLs]
 | _::_,[],_,_=>by simp [Ya,noLs]
 | a::as,b::bs,h1,h2=>by
  have r:=noLs_pairs (as:=as) (bs:=bs) (fun d m=>h1 d (List.mem_cons_of_mem _ m)) fun d m=>h2 d (List.mem_cons_of_mem _ m)
  simp only [Ya,noLs,noL,h1 a List.mem_cons_self,h2 b List.mem_cons_self,r,Bool.and_self]
theorem Itm.noL {G:Good}:∀ {k:Nat} {d:D},Itm G k d->noL d=true
 | 0,_,h=>h.elim
 | k+1,d,h=>by
  rcases h with ⟨n,rfl,_⟩ | ⟨x,rfl,_⟩ | ⟨n,e,rfl,_,i⟩ | ⟨es,rfl,_,i⟩ | ⟨ks,es,rfl,_,_,_,i⟩ | ⟨ks,es,rfl,_,_,_,i⟩
  ·rfl
  ·rfl
  ·simp only [L2.noL,noLs,Bool.true_and,Bool.and_true]; exact Itm.noL i
  ·simp only [L2.noL,noLs,Bool.true_and,Bool.and_true]; exact noLs_all fun e m=>Itm.noL (i e m)
  ·simp only [L2.noL,noLs,Bool.true_and,Bool.and_true]
   refine noLs_pairs (fun d m=>?_) fun e m=>Itm.noL (i e m)
   obtain ⟨x,_,rfl⟩:=List.mem_map.mp m
   rfl
  ·simp only [L2.noL,noLs,Bool.true_and,Bool.and_true]
   refine noLs_pairs (fun d m=>?_) fun e m=>Itm.noL (i e m)
   obtain ⟨x,_,rfl⟩:=List.mem_map.mp m
   rfl
theorem Itm.noLs {G:Good} {k:Nat} {ds:List D} (h:∀ d∈ds,Itm G k d):noLs ds=true:=noLs_all fun d m=>(h d m).noL
section
variable {X:Cx}
theorem Zk (i:Nat) {x:Str} {e:Expr} {te:TE} {pos pos':Pos} (hN:X.N.Nodup) (hi:X.N[i]?=some x) (hx:Loc X.env.scope x) (he:PE X e te)
  (hs:swapsWith e (some (.Name x pos')) pos.line X.env=pure false:=by rfl) (hf:X.fn x=true\/X.env.scope.names.lookup x=some .local:=by first | exact .inl rfl | exact .inr rfl | assumption) :
  PS X (.Assign [.Name x pos'] e pos) (tAsg te (gName i)):=ps_set hN hi hx he hs hf
theorem Zo (i:Nat) {x:Str} {pos:Pos} (hN:X.N.Nodup) (hi:X.N[i]?=some x) (hx:Loc X.env.scope x)
  (hf:X.fn x=true\/X.env.scope.names.lookup x=some .local:=by first | exact .inl rfl | exact .inr rfl | assumption):PG X (.Name x pos) (gName i):=pg_name hN hi hx hf
theorem Vw {x:Str} {C:Addr} {pos:Pos} (hg:Gl X x) (hm:X.mg x=some (.ref C)) (hd:(x == ("__debug__" : Str))=false:=by decide):PE X (.Name x pos) (tC (.ref C)):=pe_glob hg hm rfl hd
theorem pe_bltnT {T:String} {x:Str} {pos:Pos} (hg:Gl X x) (hm:X.mg x=none) (hv:bootBuiltins x=some (.type T)) (hn:x ≠ "__name__" := by decide) (hd:(x == ("__debug__" : Str))=false:=by decide) :
  PE X (.Name x pos) (tC (.ty T)):=pe_bltn hg hm hv rfl hn hd
theorem pe_compI (NX:List Str) (outer:Scope) (N:List Str) (fr:List (Option Nat)) {scope:Scope} {tg elt iter:Expr} {ifs:List Expr} {pos:Pos} {wi:TI} {g:DG} {tt:DT} {te:DE} (hc:X.calm=true) (hi:PI X tg iter wi)
  (C:CompFr X NX outer scope N fr) (hg:∀ fp s H,PG (Y0 X scope N fp s H) tg (g fp s H)) (ht:∀ fp s H,PTs (Y0 X scope N fp s H) ifs (tt fp s H)) (he:∀ fp s H,PE (Y0 X scope N fp s H) elt (te fp s H))
  (hs:∀ x,foldedSetIterable iter X.env x=pure x:=by intro _; rfl):PE X (.ListComp elt [⟨tg,iter,ifs,0⟩] scope pos) (tComp wi fr g tt te):=pe_comp hc hi C hg ht he hs
theorem ps_setCompI (i:Nat) (NX:List Str) (outer:Scope) (N:List Str) (fr:List (Option Nat)) {scope:Scope} {tg elt iter:Expr} {ifs:List Expr} {pos pos' pos2:Pos} {wi:TI} {g:DG} {tt:DT} {te:DE} {x:Str} (hN:X.N.Nodup) (hix:X.N[i]?=some x)
  (hx:Loc X.env.scope x) (hc:X.calm=true) (hi:PI X tg iter wi) (C:CompFr X NX outer scope N fr) (hg:∀ fp s H,PG (Y0 X scope N fp s H) tg (g fp s H)) (ht:∀ fp s H,PTs (Y0 X scope N fp s H) ifs (tt fp s H))
  (he:∀ fp s H,PE (Y0 X scope N fp s H) elt (te fp s H)) (hsw:swapsWith (.ListComp elt [⟨tg,iter,ifs,0⟩] scope pos) (some (.Name x pos')) pos2.line X.env=pure true:=by rfl)
  (hs:∀ x,foldedSetIterable iter X.env x=pure x:=by intro _; rfl) (hf:X.fn x=true\/X.env.scope.names.lookup x=some .local:=by first | exact .inl rfl | exact .inr rfl | assumption) :
  PS X (.Assign [.Name x pos'] (.ListComp elt [⟨tg,iter,ifs,0⟩] scope pos) pos2) (tAsg (tComp wi fr g tt te) (gName i)):=ps_setComp hN hix hx hc hi C hg ht he hsw hs hf
end
end L2
namespace DctE
open PySem PySem.SeqAt PySem.MeetsSeq
open PySem.AutoSeq1 (wpAny_loadPart')
end DctE
namespace L2
open PySem PySem.Spec PyProof.Rows
section
variable {X:Cx} {pins:List (Addr × Obj)} {σ:St} {H H':Hp} {s:Shared} {h':Heap}
end
section
variable {X:Cx} {pos:Pos}
theorem op_le_str:OpR X (compareOp .LtE) (fun x y H Q=>∃ i j,x=.str i/\y=.str j/\Q (.bl (!decide (j.cps.toList<i.cps.toList))) H):=by
 intro pins s σ H x y v u Q I rx ry h
 obtain ⟨i,j,rfl,rfl,q⟩:=h
 obtain ⟨t,rfl⟩:=rx
 obtain ⟨t',rfl⟩:=ry
 exact PySem.P.le_str (Yk I q rfl)
theorem op_gt_str:OpR X (compareOp .Gt) (fun x y H Q=>∃ i j,x=.str i/\y=.str j/\Q (.bl (decide (j.cps.toList<i.cps.toList))) H):=by
 intro pins s σ H x y v u Q I rx ry h
 obtain ⟨i,j,rfl,rfl,q⟩:=h
 obtain ⟨t,rfl⟩:=rx
 obtain ⟨t',rfl⟩:=ry
 exact PySem.P.gt_str (Yk I q rfl)
end
def Its (x:Str):It:=⟨fun i _=>i<x.cps.size,fun i H v H'=>H'=H/\∃ c,x.cps[i]?=some c/\v=.str ⟨#[c]⟩,fun i _=>x.cps.size<=i⟩
theorem turn_str {P:Program} {w:World} {K:PySem.W.Frag} {tg:Expr} (x:Str) (it:Addr) (T:String) (t:Tok) (hT:["enumerate","zip","dict_itemiterator","dict_reverseitemiterator","odict_iterator","itertools.zip_longest","itertools.pairwise"].contains T=false)
  (W:∀ A:Around,A.handled=none->Walks P w A it [it] [it] x.cps.size (SignAt x) (fun i h=>h.IsStrIter it T x t i)) (hs:∀ (A:Around) (i:Nat) (s:Shared) (Q:Value->Shared->Prop) (E:Value->Shared->Prop),s.heap.IsStrIter it T x t i->Q (.ref it) s->wpAny (model P w) A (pyIter (.ref it)) Q E s)
  (hd:∀ (A:Around) (i:Nat) (s:Shared) (Q:Option Value->Shared->Prop) (E:Value->Shared->Prop),A.handled=none->x.cps.size<=i->s.heap.IsStrIter it T x t i->(∀ h' tk,(∀ b o,b≠it->s.heap.get? b=some o->h'.get? b=some o)->Q none { s with heap:=h',toks:=tk })->wpAny (model P w) A (pyNext (.ref it)) Q E s) :
  Turn P w K tg (Its x) [it] it (fun i h=>h.IsStrIter it T x t i) where
 mem:=by simp
 obj:=fun i h st b hb=>by
  have e:b=it:=by simpa using hb
  subst e
  obtain ⟨o,e,c,d⟩:=st
  exact ⟨o,e,fun v z=>by rw [d] at z; cases z⟩
 keep:=fun i h h' st k=>let ⟨o,ho,r⟩:=st; ⟨o,k it (by simp) o ho,r⟩
 item:=by
  intro X hP hw hK hc i pins s σ H E I hf st hg
  subst hP hw hK
  obtain ⟨f0,f1,f2,f3,f4,f5⟩:=hf it (by simp)
  refine (W X.A (I.ok.hd hc)).item i s _ _ hg st fun v h' tk hv st' kk=>?_
  obtain ⟨c,u,hc',rfl⟩:=hv
  have I1:Zs X pins σ H { s with heap:=h',toks:=tk }:=I.turned (fun b o hb e=>kk b o (by simpa using hb) e) f0 f1 f3 f4 f5
  obtain ⟨o,e,c1,d⟩:=id st'
  exact ⟨_,rfl,go_of (s:={ s with heap:=h',toks:=tk }) e c1 d hT ⟨.str ⟨#[c]⟩,H,I1,⟨u,rfl⟩,⟨rfl,c,hc',rfl⟩,st',fun b hb=>(hf b hb).1⟩⟩
 done:=by
  intro X hP hw hK hc i pins s σ H E I hf st hg
  subst hP hw hK
  obtain ⟨f0,f1,f2,f3,f4,f5⟩:=hf it (by simp)
  exact hd X.A i s _ _ (I.ok.hd hc) hg st fun h' tk eb=>⟨rfl,I.turned (fun b o hb e=>eb b o hb e) f0 f1 f3 f4 f5⟩
 self:=fun A i s Q E st h=>hs A i s Q E st h
def iStr (te:TE):TI:=fun σ H R=>te σ H fun v H1=>∃ x,v=.str x/\R (Its x) H1
section
variable {X:Cx} {tg l:Expr} {tl:TE}
theorem pi_str (hl:PE X l tl):PI X tg l (iStr tl):=by
 intro pins s σ H R I h
 refine Vv (hl pins s σ H _ I h) fun v s1 ⟨v',H1,I1,r1,q1⟩=>?_
 obtain ⟨x,rfl,q⟩:=q1
 obtain ⟨t,rfl⟩:=r1
 have fin:∀ b∈[s1.heap.objs.size],FpOk X pins H1 b:=fun b hb=>by
  have e:b=s1.heap.objs.size:=by simpa using hb
  subst e
  exact I1.fpOk (Nat.le_refl _) (I1.hok.fresh (Nat.le_refl _))
 cases ha:x.cps.all (·<128)
 ·refine wpAny_pyIter_wide ha ?_
  exact ⟨s1.heap.objs.size,[s1.heap.objs.size],_,_,H1,rfl,I1.kept (t':=s1.toks) fun b o e=>Heap.get?_push_of_some _ e,turn_str x _ "str_iterator" t (by decide) (fun A hA=>Walks.strWide hA _ x t) (fun A i s Q E st h=>wpAny_pyIter_striter_wide st h)
   (fun A i s Q E hA hi st h=>wpAny_pyNext_wide_end hA st (by simp [hi]) fun h' he=>h h' s.toks fun b o hb e=>he b o hb e),⟨_,Heap.get?_push_size _ rfl,rfl,rfl⟩,fin,q⟩
 ·refine wpAny_pyIter_ascii ha ?_
  exact ⟨s1.heap.objs.size,[s1.heap.objs.size],_,_,H1,rfl,I1.kept (t':=s1.toks) fun b o e=>Heap.get?_push_of_some _ e,turn_str x _ "str_ascii_iterator" t (by decide) (fun A hA=>Walks.strAscii hA _ x t) (fun A i s Q E st h=>wpAny_pyIter_striter_ascii st h)
   (fun A i s Q E hA hi st h=>wpAny_pyNext_ascii_end hA st (by simp [hi]) fun h' he=>h h' s.toks fun b o hb e=>he b o hb e),⟨_,Heap.get?_push_size _ rfl,rfl,rfl⟩,fin,q⟩
end
theorem comp_str {x:Str} {D:Addr} {g:TG} {tt:TT} {te:TE} {fin:Hp->Prop} {σ0:St} {H0:Hp} (Pv:Nat->List V->St->Hp->Prop) (h0:Pv 0 [] σ0 H0)
  (hq:∀ i ys σ H,i<=x.cps.size->Pv i ys σ H->H D=some (.lst ys))
  (hs:∀ i c ys σ H,x.cps[i]?=some c->Pv i ys σ H->g (.str ⟨#[c]⟩) σ H fun σ2 H2=>tt σ2 H2 fun ok H3=>if ok=true then te σ2 H3 fun y H4=>H4 D=some (.lst ys)/\ys.length<sizeLine/\Pv (i+1) (ys++[y]) σ2 (Z6 H4 D (.lst (ys++[y]))) else Pv (i+1) ys σ2 H3)
  (hd:∀ ys σ H,Pv x.cps.size ys σ H->fin H):∃ W:Nat->Nat->List V->St->Hp->Prop,(∃ m,W 0 m [] σ0 H0)/\CompW (Its x) g tt te D W fin:=by
 refine ⟨fun i m ys σ H=>m=x.cps.size - i/\i<=x.cps.size/\Pv i ys σ H,⟨x.cps.size,by simp,Nat.zero_le _,h0⟩, ?_⟩
 rintro i m ys σ H ⟨rfl,hi,p⟩
 refine ⟨hq i ys σ H hi p, ?_⟩
 by_cases hlt:i<x.cps.size
 ·refine .inr ⟨hlt,Pv (i+1),fun ys' σ' H' p'=>⟨x.cps.size - (i+1),by omega,rfl,hlt,p'⟩,fun v H' y=>?_⟩
  obtain ⟨e,c,y,rfl⟩:=y
  subst e
  exact hs i c ys σ _ y p
 ·have e:i=x.cps.size:=by omega
  subst e
  exact .inl ⟨Nat.le_refl _,hd ys σ H p⟩
section
variable {X:Cx} {es:List Expr} {k:Nat} {p2 pos pos2:Pos} {a b:Expr} {t:TA}
end
section
variable {X:Cx}
theorem op_catT0:OpR X (binaryOp .Add) (fun x y H Q=>∃ l b zs,x=.ref l/\y=.ref b/\Yg X.K H l []/\Yg X.K H b zs/\Q (.ref b) H):=by
 intro pins s σ H x y v u Q I rx ry h
 obtain ⟨l,b,zs,rfl,rfl,hl,hb,q⟩:=h
 cases rx
 cases ry
 obtain ⟨i1,r1,p1,z1⟩:=I.tuple hl
 obtain ⟨i2,r2,p2,z2⟩:=I.tuple hb
 have e1:i1=[]:=by cases r1; rfl
 subst e1
 obtain ⟨⟨c1,d1,t1,s1⟩,o1,k1,n1,m1⟩:=id p1
 obtain ⟨⟨c2,d2,t2,s2⟩,o2,k2,n2,m2⟩:=id p2
 simp only at k1 m1 k2 m2
 subst k1 m1 k2 m2
 exact concat_meets ⟨_,o1,rfl⟩ ⟨_,o2,rfl⟩ noFill_tuple_add seq_tuple_add PySem.F.slot_tuple_add PySem.F.entry_tuple_add (PySem.F.args_tuple_add_2 _ _) (tuple_addW0 l b _ _ n1 n2 d1 d2 s1 s2 rfl) ⟨o1,o2,⟨.ref b,H,I,rfl,q⟩⟩
end
end L2
namespace HT
open PySem PySem.Spec PyProof.Rows
section
variable {prog:Program} {w:World} {A:Around} {E:Value->Shared->Prop} {s:Shared}
end
end HT
namespace L2
open PySem PySem.Spec PyProof.Rows
section
variable {X:Cx} {e:Expr} {te:TE} {lo hi:Option Expr} {tl th:TO} {pos p2 p3 p4:Pos} {j1:Nat}
theorem Zt.lay {H:Hp} {p:Addr} {o:HO} (h:H p=none):Zt H (Z6 H p o):=fun b u q=>by rw [Zh (Z5 q h)]; exact q
theorem Z0.rev {xs:List V} {us:List Value} (r:Z0 xs us):Z0 xs.reverse us.reverse:=by
 induction r with
 | nil=>exact .nil
 | cons h t ih =>
  rw [List.reverse_cons,List.reverse_cons]
  exact Z0.append ih (.cons h .nil)
def rCatG (K:W.Frag):R2:=fun x y H Q=>∃ a b xs ys,x=.ref a/\y=.ref b/\Yg K H a xs/\Yg K H b ys/\xs.length+ys.length<=sizeLine/\∀ p H',Zt H H'->Yg K H' p (xs++ys)->Q (.ref p) H'
theorem Vf:OpR X (binaryOp .Add) (rCatG X.K):=by
 intro pins s σ H x y v u Q I rx ry h
 obtain ⟨a,b,xs,ys,rfl,rfl,ha,hb,hz,q⟩:=h
 cases xs with
 | nil=>exact op_catT0 pins s σ H _ _ v u Q I rx ry ⟨a,b,ys,rfl,rfl,ha,hb,q b H (Zt.refl H) hb⟩
 | cons x xs =>
  refine op_catT pins s σ H _ _ v u Q I rx ry ⟨a,b,x::xs,ys,rfl,rfl,ha,hb,(fun z=>nomatch z),hz,fun e=>?_,fun _ p hp=>q p _ (Zt.lay hp) (Yg.of Zq)⟩
  subst e
  exact q a H (Zt.refl H) (by rw [List.append_nil]; exact ha)
end
structure FnV (X:Cx) (f:Addr) (ps:List Str) (sp:Sp):Prop where
 ok:∃ k fd,Yj X.prog X.w X.K X.mg X.base CX0 k f fd ps sp/\Vc X.K fd ps []/\Vm k X.A
 kp:W.keepIn X.K (.ref f)=true
section
variable {X:Cx} {x:Str} {p pos:Pos} {e:Expr} {es:List Expr} {tn:TE} {t:TA} {Y:Cx->Addr->List Str->Sp->Prop}
end
inductive Th where
 | non | bl (b:Bool) | int (i:Int) | str (x:Str) | tup (ts:List Th) | opq
mutual
def IsTh (K:W.Frag) (H:Hp):Th->V->Prop
 | .non,v=>v=.non
 | .bl b,v=>v=.bl b
 | .int i,v=>v=.int i
 | .str x,v=>v=.str x
 | .tup ts,v=>∃ a vs,v=.ref a/\Yg K H a vs/\Ye K H ts vs
 | .opq,v=>∃ a,v=.ref a/\((∃ xs,H a=some (.lst xs))\/∃ kvs,H a=some (.dK kvs))
def Ye (K:W.Frag) (H:Hp):List Th->List V->Prop
 | [],vs=>vs=[]
 | t::ts,vs=>∃ v r,vs=v::r/\IsTh K H t v/\Ye K H ts r
end
structure UpT (K:W.Frag) (H H':Hp):Prop where
 tup:Up K H H'
 lst:∀ a xs,H a=some (.lst xs)->∃ ys,H' a=some (.lst ys)
 dct:∀ a kvs,H a=some (.dK kvs)->H' a=some (.dK kvs)
section
variable {K:W.Frag} {H H1 H':Hp}
theorem UpT.refl (H:Hp):UpT K H H:=⟨Up.refl H,fun _ xs h=>⟨xs,h⟩,fun _ _ h=>h⟩
theorem UpT.trans {H2:Hp} (a:UpT K H H1) (b:UpT K H1 H2):UpT K H H2:=⟨a.tup.trans b.tup,fun p xs h=>let ⟨_,e⟩:=a.lst p xs h; b.lst p _ e,fun p k h=>b.dct p k (a.dct p k h)⟩
mutual
theorem IsTh.up (u:UpT K H H'):∀ (t:Th) (v:V),IsTh K H t v->IsTh K H' t v
 | .non,_,h=>h
 | .bl _,_,h=>h
 | .int _,_,h=>h
 | .str _,_,h=>h
 | .tup ts,v,h=>by
  obtain ⟨a,vs,e,q,r⟩:=h
  exact ⟨a,vs,e,u.tup a vs q,Ye.up u ts vs r⟩
 | .opq,v,h=>by
  obtain ⟨a,e,q⟩:=h
  refine ⟨a,e, ?_⟩
  rcases q with ⟨xs,q⟩ | ⟨k,q⟩
  ·exact .inl (u.lst a xs q)
  ·exact .inr ⟨k,u.dct a k q⟩
theorem Ye.up (u:UpT K H H'):∀ (ts:List Th) (vs:List V),Ye K H ts vs->Ye K H' ts vs
 | [],_,h=>h
 | t::ts,vs,h=>by
  obtain ⟨v,r,e,q,w⟩:=h
  exact ⟨v,r,e,IsTh.up u t v q,Ye.up u ts r w⟩
end
theorem Ye.length:∀ {ts:List Th} {vs:List V},Ye K H ts vs->ts.length=vs.length
 | [],vs,h=>by
  have e:vs=[]:=h
  subst e; rfl
 | t::ts,vs,h=>by
  obtain ⟨v,r,rfl,_,w⟩:=h
  simp only [List.length_cons,Ye.length w]
theorem Ye.get:∀ {ts:List Th} {vs:List V} {i:Nat} {t:Th},Ye K H ts vs->ts[i]?=some t->∃ v,vs[i]?=some v/\IsTh K H t v
 | [],vs,i,t,_,e=>by simp at e
 | t::ts,vs,0,t',h,e=>by
  obtain ⟨v,r,rfl,q,_⟩:=h
  simp at e; subst e
  exact ⟨v,rfl,q⟩
 | t::ts,vs,i+1,t',h,e=>by
  obtain ⟨v,r,rfl,_,w⟩:=h
  obtain ⟨v',e1,q⟩:=Ye.get (i:=i) w (by simpa using e)
  exact ⟨v',by simpa using e1,q⟩
theorem Ye.append:∀ {ts us:List Th} {vs ws:List V},Ye K H ts vs->Ye K H us ws->Ye K H (ts++us) (vs++ws)
 | [],us,vs,ws,h,h'=>by
  have e:vs=[]:=h
  subst e; exact h'
 | t::ts,us,vs,ws,h,h'=>by
  obtain ⟨v,r,rfl,q,w⟩:=h
  exact ⟨v,r++ws,rfl,q,Ye.append w h'⟩
theorem Ye.one {t:Th} {v:V} (h:IsTh K H t v):Ye K H [t] [v]:=⟨v,[],rfl,h,rfl⟩
theorem Ye.drop:∀ {ts:List Th} {vs:List V} (n:Nat),Ye K H ts vs->Ye K H (ts.drop n) (vs.drop n)
 | ts,vs,0,h=>h
 | [],vs,n+1,h=>by
  have e:vs=[]:=h
  subst e; rfl
 | t::ts,vs,n+1,h=>by
  obtain ⟨v,r,rfl,_,w⟩:=h
  exact Ye.drop n w
theorem Ye.take:∀ {ts:List Th} {vs:List V} (n:Nat),Ye K H ts vs->Ye K H (ts.take n) (vs.take n)
 | ts,vs,0,_=>rfl
 | [],vs,n+1,h=>by
  have e:vs=[]:=h
  subst e; rfl
 | t::ts,vs,n+1,h=>by
  obtain ⟨v,r,rfl,q,w⟩:=h
  exact ⟨v,r.take n,rfl,q,Ye.take n w⟩
theorem Ye.reverse:∀ {ts:List Th} {vs:List V},Ye K H ts vs->Ye K H ts.reverse vs.reverse
 | [],vs,h=>by
  have e:vs=[]:=h
  subst e; rfl
 | t::ts,vs,h=>by
  obtain ⟨v,r,rfl,q,w⟩:=h
  rw [List.reverse_cons,List.reverse_cons]
  exact Ye.append (Ye.reverse w) (Ye.one q)
end
def isiT (T:String):Th->Bool
 | .non=>false
 | .bl _=>T == "int" || T == "bool"
 | .int _=>T == "int"
 | .str _=>T == "str"
 | .tup _=>T == "tuple"
 | .opq=>false
section
variable {X:Cx}
theorem isi_tup {pins:List (Addr × Obj)} {σ:St} {H:Hp} {s:Shared} {a:Addr} {xs:List V} {c:Value} {b:Bool} {Q:Value->Shared->Prop} {E:Value->Shared->Prop} (I:Zs X pins σ H s) (q:Yg X.K H a xs) (e:W.kitOne X.K (.type "tuple") c=some b) (h:∀ tk,Q (.bool b) { s with toks:=tk }) :
  wpAny (model X.prog X.w) X.A (call (.builtin "isinstance") [.ref a,c]) Q E s:=by
 obtain ⟨its,_,⟨o,h1,h2,_⟩,_⟩:=I.tuple q
 exact W.kia_one W.kitx_tuple I.kIn ⟨o,h1,h2⟩ e (fun z=>nomatch z) h
theorem call_isiTh:CallR X (.builtin "isinstance") (fun xs H Q=>∃ x T t,xs=[x,.ty T]/\IsTh X.K H t x/\T∈["tuple","str","int","bool"]/\Q (.bl (isiT T t)) H):=by
 intro pins s σ H xs us Q I r h
 obtain ⟨x,T,t,rfl,ht,hT,q⟩:=h
 obtain ⟨u,w',rfl,rx,ry⟩:=vals2 r
 cases ry
 have fin:∀ tk,EP X pins σ Q (.bool (isiT T t)) { s with toks:=tk }:=fun tk=>⟨.bl _,H,I.tok _,rfl,q⟩
 have four:∀ P:String->Prop,P "tuple" -> P "str" -> P "int" -> P "bool" -> P T:=fun P a b c d=>by
  simp only [List.mem_cons,List.not_mem_nil,or_false] at hT
  rcases hT with rfl | rfl | rfl | rfl
  ·exact a
  ·exact b
  ·exact c
  ·exact d
 cases t with
 | non =>
  cases (show x=.non from ht)
  exact isinst_ok I rx .non (by revert fin; exact four (fun T=>_->W.kitOne X.K (.type "NoneType") (.type T)=some (isiT T .non)) (fun _=>rfl) (fun _=>rfl) (fun _=>rfl) (fun _=>rfl)) fin
 | bl b =>
  cases (show x=.bl b from ht)
  exact isinst_ok I rx (.bl b) (by revert fin; exact four (fun T=>_->W.kitOne X.K (.type "bool") (.type T)=some (isiT T (.bl b))) (fun _=>rfl) (fun _=>rfl) (fun _=>rfl) (fun _=>rfl)) fin
 | int i =>
  cases (show x=.int i from ht)
  exact isinst_ok I rx (.int i) (by revert fin; exact four (fun T=>_->W.kitOne X.K (.type "int") (.type T)=some (isiT T (.int i))) (fun _=>rfl) (fun _=>rfl) (fun _=>rfl) (fun _=>rfl)) fin
 | str i =>
  cases (show x=.str i from ht)
  exact isinst_ok I rx (.str i) (by revert fin; exact four (fun T=>_->W.kitOne X.K (.type "str") (.type T)=some (isiT T (.str i))) (fun _=>rfl) (fun _=>rfl) (fun _=>rfl) (fun _=>rfl)) fin
 | tup ts =>
  obtain ⟨a,vs,rfl,hq,_⟩:=ht
  cases rx
  exact isi_tup I hq (by revert fin; exact four (fun T=>_->W.kitOne X.K (.type "tuple") (.type T)=some (isiT T (.tup ts))) (fun _=>rfl) (fun _=>rfl) (fun _=>rfl) (fun _=>rfl)) fin
 | opq =>
  obtain ⟨a,rfl,⟨xs,hq⟩ | ⟨k,hq⟩⟩:=ht
  ·exact isinst_ok I rx (.lst hq) (by revert fin; exact four (fun T=>_->W.kitOne X.K (.type "list") (.type T)=some (isiT T .opq)) (fun _=>rfl) (fun _=>rfl) (fun _=>rfl) (fun _=>rfl)) fin
  ·exact isinst_ok I rx (.dK hq) (by revert fin; exact four (fun T=>_->W.kitOne X.K (.type "dict") (.type T)=some (isiT T .opq)) (fun _=>rfl) (fun _=>rfl) (fun _=>rfl) (fun _=>rfl)) fin
def rEqNil (K:W.Frag) (A:Around):R2:=fun x y H Q=>∃ a b xs,x=.ref a/\y=.ref b/\Yc K H a xs/\Yc K H b []/\A.units<cLine/\Q (.bl xs.isEmpty) H
theorem op_eqNil:OpR X (compareOp .Eq) (rEqNil X.K X.A):=by
 intro pins s σ H x y v u Q I rx ry h
 obtain ⟨a,b,xs,rfl,rfl,ha,hb,hu,q⟩:=h
 cases rx
 cases ry
 obtain ⟨i1,r1,p1,z1⟩:=I.list ha
 obtain ⟨i2,r2,p2,z2⟩:=I.list hb
 have e2:i2=[]:=by cases r2; rfl
 subst e2
 cases xs with
 | nil =>
  have e1:i1=[]:=by cases r1; rfl
  subst e1
  have:=SeqAt.RcAt.lists (A:=X.A) (e:=fun _=>true) p1.isList p2.isList rfl hu (fun j h1 h2=>absurd h1 (by simp))
  exact this X.prog X.w X.xe _ ⟨.bl _,H,I,rfl,q⟩
 | cons x xs =>
  have hl:=r1.length
  exact SeqAt.RcAt.lists_lengths (A:=X.A) p1.isList p2.isList (by rw [List.size_toArray, <-hl]; rfl) hu X.prog X.w X.xe _ ⟨.bl _,H,I,rfl,q⟩
end
theorem goAlways {τ:St} {o:Option V} {v:V} {H:Hp} {A B:St->Hp->Prop} (h:A (some v::τ) H):gName 0 v (o::τ) H fun σ2 H2=>tAlways σ2 H2 fun ok H3=>if ok=true then A σ2 H3 else B σ2 H3:=by
 show if true=true then A (some v::τ) H else B (some v::τ) H
 rw [if_pos rfl]
 exact h
theorem take_more {α:Type} {xs:List α} {i:Nat} {x:α} (e:xs[i]?=some x):xs.take (i+1)=xs.take i++[x]:=by rw [List.take_add_one,e]; rfl
section
variable {K:W.Frag} {H:Hp} {a D:Addr} {xs:List V} {ts:List Th} {te:TE} {tt:TT} {fin:Hp->Prop} {τ:St} {o:Option V}
end
end L2
namespace K01
open PySem PySem.Spec PyProof.Rows L2
def gdC (c:Nat):Prop:=32<=c/\c<=126/\c≠37
def gdS (x:Str):Prop:=∀ c∈x.cps.toList,gdC c
mutual
def gdT:Th->Prop
 | .str x=>gdS x/\x.length<=1000
 | .tup ts=>gdTs ts
 | _=>True
def gdTs:List Th->Prop
 | []=>True
 | t::ts=>gdT t/\gdTs ts
end
mutual
def szT:Th->Nat
 | .tup ts=>szTs ts+1
 | _=>1
def szTs:List Th->Nat
 | []=>0
 | t::ts=>szT t+szTs ts
end
mutual
def dpT:Th->Nat
 | .tup ts=>dpTs ts+1
 | _=>0
def dpTs:List Th->Nat
 | []=>0
 | t::ts=>max (dpT t) (dpTs ts)
end
mutual
def wdT:Th->Nat
 | .tup ts=>max ts.length (wdTs ts)
 | _=>0
def wdTs:List Th->Nat
 | []=>0
 | t::ts=>max (wdT t) (wdTs ts)
end
def LET:Str:="abcdefghijklmnopqrstuvwxyz"
def SGN : Str := " !\"#$&'()*+,-./0123456789:;<=>?\x40ABCDEFGHIJKLMNOPQRSTUVWXYZ[\\]^_`abcdefghijklmnopqrstuvwxyz{|}~"
structure Fine (t:Th) (s d w:Nat):Prop where
 gd:gdT t
 sz:szT t<=s
 dp:dpT t<=d
 wd:wdT t<=w
theorem ltCps_eq:∀ a b:List Nat,ltCps a b=decide (a<b)
 | [],[]=>by simp [ltCps]
 | [],_::_=>by simp [ltCps]
 | _::_,[]=>by simp [ltCps]
 | a::r,b::t=>by
  simp only [ltCps,ltCps_eq r t,List.cons_lt_cons_iff]
  by_cases h1:a<b <;> by_cases h2:a=b <;> by_cases h3:r<t <;> simp [h1,h2,h3]
def ltS (x y:Str):Prop:=x.cps.toList<y.cps.toList
theorem str_ext {x y:Str} (h:x.cps.toList=y.cps.toList):x=y:=by
 cases x; cases y
 simp only at h
 congr
 exact Array.toList_inj.mp h
theorem ltS_of {x y:Str} (h:¬ ltS y x) (n:x≠y):ltS x y:=by
 by_cases z:ltS x y
 ·exact z
 ·exact absurd (str_ext (List.le_antisymm (List.not_lt.mp h) (List.not_lt.mp z))) n
def adj {α:Type} (r:α->α->Prop):List α->Prop
 | a::b::l=>r a b/\adj r (b::l)
 | _=>True
theorem sortedS_adj:∀ {ns:List Str},sortedS ns=true->ns.Nodup->adj ltS ns
 | [],_,_=>trivial
 | [a],_,_=>trivial
 | a::b::l,h,n=>by
  have h':(!ltCps b.cps.toList a.cps.toList && risingS b l)=true:=h
  rw [Bool.and_eq_true] at h'
  have n':=List.nodup_cons.mp n
  refine ⟨ltS_of (fun z=>?_) (fun z=>?_),sortedS_adj (ns:=b::l) h'.2 n'.2⟩
  ·have:=h'.1
   rw [ltCps_eq,decide_eq_true (show b.cps.toList<a.cps.toList from z)] at this
   cases this
  ·exact n'.1 (by rw [z]; exact List.mem_cons_self)
theorem sortedI_adj {ns:List Int} (h:ns.Pairwise (·<=·)) (n:ns.Nodup):ns.Pairwise (· < ·):=by
 induction ns with
 | nil=>exact .nil
 | cons a l ih =>
  have h':=List.pairwise_cons.mp h
  have n':=List.nodup_cons.mp n
  refine List.pairwise_cons.mpr ⟨fun b m=>?_,ih h'.2 n'.2⟩
  have:=h'.1 b m
  have:a≠b:=fun z=>n'.1 (by rw [z]; exact m)
  omega
end K01
namespace L2
open PySem PySem.Spec PyProof.Rows
section
variable {X:Cx}
theorem pe_globS {x z:Str} {pos:Pos} (hg:Gl X x) (hm:∃ t,X.mg x=some (.str z t)) (hd:(x == ("__debug__" : Str))=false:=by decide):PE X (.Name x pos) (tC (.str z)):=by
 obtain ⟨t,hm⟩:=hm
 exact pe_glob hg hm ⟨t,rfl⟩ hd
theorem pe_globN {x:Str} {z:Int} {pos:Pos} (hg:Gl X x) (hm:∃ t,X.mg x=some (.int z t)) (hd:(x == ("__debug__" : Str))=false:=by decide):PE X (.Name x pos) (tC (.int z)):=by
 obtain ⟨t,hm⟩:=hm
 exact pe_glob hg hm ⟨t,rfl⟩ hd
end
end L2
namespace RevA
open PySem
theorem init_rev:Slot "reversed" "__init__" "object.__init__" :=
 .of (owner:="object") (n:="__init__") (by rw [typeLookup_type,builtinLookup_eq_fast]; kernel_rfl) (by decide +kernel) (by decide +kernel) (by decide +kernel) (by first | exact .inl (by decide +kernel) | exact .inr (by decide +kernel)) (by rw [isSubtype_type]; kernel_rfl)
theorem called_rev:TypeCalled "reversed" "reversed.__new__" "object.__init__" :=
 ⟨by decide +kernel,PySem.F.create_reversed,⟨_,_,PySem.F.mro_reversed⟩,PySem.F.made_reversed,by decide +kernel,PySem.F.sub_reversed_self,init_rev⟩
theorem no_rev:typeLookup (.type "tuple") "__reversed__" = pure none:=by rw [typeLookup_type,builtinLookup_eq_fast]; kernel_rfl
abbrev tO (dd:Option Addr) (its:Array Value) (n:Nat) (sl:Array (Option Value)):Obj:={ cls:=.type "tuple",dict:=dd,data:=.seq its n,slots:=sl }
abbrev rvO (t:Addr) (i:Int):Obj:={ cls:=.type "reversed",data:=.fields #[.ref t,rawInt i] }
theorem rev_new (t:Addr) (its:Array Value) (n:Nat) (dd:Option Addr) (sl:Array (Option Value)) (hz:((its.size:Nat):Int)<2 ^ 63) :
  Meets (Builtin.«reversed.__new__» ⟨[.type "reversed",.ref t],[]⟩) (fun _ R s=>s.heap.get? t=some (tO dd its n sl)/\∀ tk,R (.ok (.ret (.ref s.heap.objs.size))) { s with heap:=s.heap.push (rvO t ((its.size:Int) - 1)),toks:=tk }) :=
 .of_wp fun prog w A R s h=>by
  obtain ⟨hp,g,d,tk,os⟩:=s
  obtain ⟨hl,h⟩:=h
  have hT:(⟨hp,g,d,tk,os⟩:Shared).TypeIs (.ref t) "tuple" := ⟨_,hl,rfl⟩
  unfold Builtin.«reversed.__new__»
  refine wpAny_bind (wpAny_of_eq (newClass_reversed _) ?_)
  try dsimp only
  refine wpAny_bind (wpAny_of_eq (a:=()) (by first | rfl | kernel_rfl) ?_)
  refine wpAny_bind (wpAny_of_eq (a:=()) (by first | rfl | kernel_rfl) ?_)
  try dsimp only
  refine wpAny_bind (wpAny_specialOf hT no_rev ?_)
  have f1:isSubtype (.type "tuple") (.type "dict")=pure false:=by rw [isSubtype_type]; kernel_rfl
  have f2:=PySem.F.slot_tuple_getitem.lookup
  have z63:((its.size:Nat):Int)<2 ^ 63:=hz
  iterate 10 (first | with_reducible refine wpAny_typeOf hT ?_ | wp_step)
  refine wpAny_bind (PyProof.Rows.len_tuple (s:=⟨hp,g,d,tk,os⟩) ⟨_,hl,rfl,n,rfl⟩ z63 ?_)
  refine wpAny_bind (wpAny_of_eq (a:=some (its.size:Int)) rfl ?_)
  refine wpAny_bind (m:=Builtin.SmallTypes.newRecord _ _) ?_
  unfold Builtin.SmallTypes.newRecord
  refine wpAny_newObj_type ?_
  exact wpAny_pure ⟨_,rfl,h _⟩
section
variable {prog:Program} {w:World} {A:Around} {E:Value->Shared->Prop} {s:Shared} {r t:Addr} {its:Array Value} {i:Int}
theorem call_rev {Q:Value->Shared->Prop} (ht:PyProof.Rows.IsTup s.heap t its) (hz:((its.size:Nat):Int)<2 ^ 63) (h:∀ tk,Q (.ref s.heap.objs.size) { s with heap:=s.heap.push (rvO t ((its.size:Int) - 1)),toks:=tk }) :
  wpAny (model prog w) A (call (.type "reversed") [.ref t]) Q E s:=by
 obtain ⟨⟨oc,od,dt,sl⟩,ho,hc,n,hd⟩:=ht
 obtain rfl:oc=_:=hc
 obtain rfl:dt=_:=hd
 exact callType_new called_rev (by decide) (PySem.F.typeCall_reversed_1 _) (PySem.F.newCall_reversed_1 _) (fun obj=>PySem.F.args_object_init_2 obj _) PySem.F.entry_reversed_new (rev_new t its n od sl hz) ⟨ho,fun tk=>⟨⟨_,Heap.get?_push_size _ rfl,rfl⟩,h tk⟩⟩
def IsRv (h:Heap) (r t:Addr) (i:Int):Prop:=∃ o,h.get? r=some o/\o.cls=.type "reversed" /\ o.data=.fields #[.ref t,rawInt i]
theorem IsRv.ty (x:IsRv s.heap r t i):s.TypeIs (.ref r) "reversed" := let ⟨o,ho,hc,_⟩:=x; ⟨o,ho,hc⟩
theorem slot_next:Slot "reversed" "__next__" "reversed.__next__" :=
 .of (owner:="reversed") (n:="__next__") (by rw [typeLookup_type,builtinLookup_eq_fast]; kernel_rfl) (by decide +kernel) (by decide +kernel) (by decide +kernel) (by first | exact .inl (by decide +kernel) | exact .inr (by decide +kernel)) (by rw [isSubtype_type]; kernel_rfl)
theorem entry_next:entryFor table "reversed.__next__" = some Builtin.«reversed.__next__»:=entryFor_of_tree (by kernel_rfl)
theorem args_next (a:Value):argsOk "reversed.__next__" ⟨[a],[]⟩:=by unfold argsOk; kernel_rfl
end
end RevA
namespace RevA
open PySem PyProof.Rows
section
variable {prog:Program} {w:World} {A:Around} {E:Value->Shared->Prop} {s:Shared} {r t:Addr} {its:Array Value}
theorem next_item {i:Nat} {x:Value} {Q:Option Value->Shared->Prop} (hr:IsRv s.heap r t (i:Int)) (ht:IsTup s.heap t its) (hx:its[i]?=some x) (hz:((its.size:Nat):Int)<2 ^ 63)
  (h:∀ h' tk,IsRv h' r t ((i:Int) - 1)->Heap.SameBut r s.heap h'->Q (some x) { s with heap:=h',toks:=tk }):wpAny (model prog w) A (pyNext (.ref r)) Q E s:=by
 obtain ⟨o,ho,hc,hd⟩:=id hr
 have hi:i<its.size:=(Array.getElem?_eq_some_iff.mp hx).1
 unfold pyNext
 refine wpAny_bind (wpAny_attempt (wpAny_callSpecial?_slot (name:=Str.ofString "__next__") hr.ty slot_next (wpAny_call_entry slot_next hr.ty entry_next ?_ (args_next _))))
 unfold Builtin.«reversed.__next__»
 refine wpAny_bind (wpAny_of_eq (a:=(Value.ref r,[])) rfl ?_)
 try dsimp only
 refine wpAny_bind (wpAny_field ho hd (x:=.ref t) rfl ?_)
 refine wpAny_bind (wpAny_field ho hd (x:=rawInt (i:Int)) rfl ?_)
 show wpAny _ _ (if (i:Int)<0 then _ else _) _ _ s
 rw [if_neg (by omega)]
 refine wpAny_bind (wpAny_specialOf ht.typeIs PySem.F.slot_tuple_getitem.lookup ?_)
 rw [if_neg (by decide)]
 refine wpAny_bind (wpAny_mkInt ?_)
 refine wpAny_bind (wpAny_attempt ?_)
 have e:seqIndex? (i:Int) its.size=some i:=by
  unfold seqIndex?
  have n0:¬ ((i:Int)<0):=by omega
  have c:(decide (0<=(i:Int)) && decide ((i:Int)<(its.size:Int)))=true:=by simp; omega
  simp only [n0,if_false,c,if_true,Int.toNat_natCast]
 refine getItem_tuple (s:={ s with toks:=s.toks+1 }) (j:=i) ht (by omega) (by omega) e hx ?_
 refine wpAny_bind (wpAny_field (s:={ s with toks:=s.toks+1 }) ho hd (x:=rawInt (i:Int)) rfl ?_)
 refine wpAny_bind (wpAny_setField (s:={ s with toks:=s.toks+1 }) ho hd (by simp) ?_)
 refine wpAny_pure ⟨x,rfl,wpAny_pure (h _ _ ⟨_,Heap.get?_update_self _ ho (Obj.isFreed_of_fields (Obj.data_mapFields hd _)),(Obj.cls_mapFields ..).trans hc, ?_⟩ (Heap.SameBut.update ..))⟩
 rw [Obj.data_mapFields hd]; simp
theorem next_end {Q:Option Value->Shared->Prop} (hh:A.handled=none) (hr:IsRv s.heap r t (-1))
  (h:∀ h',(∀ b u,b≠r->s.heap.get? b=some u->h'.get? b=some u)->Q none { s with heap:=h' }):wpAny (model prog w) A (pyNext (.ref r)) Q E s:=by
 obtain ⟨o,ho,hc,hd⟩:=id hr
 unfold pyNext
 refine wpAny_bind (wpAny_attempt (wpAny_callSpecial?_slot (name:=Str.ofString "__next__") hr.ty slot_next (wpAny_call_entry slot_next hr.ty entry_next ?_ (args_next _))))
 unfold Builtin.«reversed.__next__»
 refine wpAny_bind (wpAny_of_eq (a:=(Value.ref r,[])) rfl ?_)
 try dsimp only
 refine wpAny_bind (wpAny_field ho hd (x:=.ref t) rfl ?_)
 refine wpAny_bind (wpAny_field ho hd (x:=rawInt (-1)) rfl ?_)
 show wpAny _ _ (if (-1:Int)<0 then _ else _) _ _ s
 rw [if_pos (by decide)]
 refine wpAny_bind (wpAny_rule ?_)
 refine wpAny_bind (wpAny_bind (wpAny_setField ho hd (by simp) ?_))
 have h1:=Heap.get?_update_self (Obj.mapFields (·.setIfInBounds 1 (rawInt (-1)))) ho (Obj.isFreed_of_fields (Obj.data_mapFields hd _))
 have d1:=Obj.data_mapFields hd (·.setIfInBounds 1 (rawInt (-1)))
 refine wpAny_setField h1 d1 (by simp) ?_
 refine wpAny_bind ?_
 show wpAny _ _ (newExc (.type "StopIteration") [] >>= _) _ _ _
 refine wpAny_bind ?_
 simp only [newExc,newTuple]
 refine wpAny_bind (wpAny_newObj_type ?_ (by size_fits))
 refine wpAny_bind (m:=firstArgMember _ _) (wpAny_of_eq (a:=Value.none) (by first | rfl | (simp only [firstArgMember]; rfl)) ?_)
 refine wpAny_newObj_type ?_ (by size_fits)
 refine wpAny_raiseNew_none (A:=A.in1) hh ?_
 refine wpAny_bind (wpAny_isInstance (T:="StopIteration") (b:=true) ⟨_,Heap.get?_push_size _ rfl,rfl⟩ isSubtype_stop ?_)
 refine wpAny_pure (h _ fun b u hb q=>?_)
 exact Heap.get?_push_of_some _ (Heap.get?_push_of_some _ ((Heap.get?_update_other _ _ (Ne.symm hb)).trans ((Heap.get?_update_other _ _ (Ne.symm hb)).trans q)))
end
theorem slot_iter:Slot "reversed" "__iter__" "reversed.__iter__" :=
 .of (owner:="reversed") (n:="__iter__") (by rw [typeLookup_type,builtinLookup_eq_fast]; kernel_rfl) (by decide +kernel) (by decide +kernel) (by decide +kernel) (by first | exact .inl (by decide +kernel) | exact .inr (by decide +kernel)) (by rw [isSubtype_type]; kernel_rfl)
theorem args_iter (a:Value):argsOk "reversed.__iter__" ⟨[a],[]⟩:=by unfold argsOk; kernel_rfl
theorem entry_iter:entryFor table "reversed.__iter__" = some Builtin.«dict_keyiterator.__iter__» :=
 entryFor_alias (id':="dict_keyiterator.__iter__") (by kernel_rfl) (by first | rfl | decide +kernel) (by decide +kernel) (by kernel_rfl)
section
variable {prog:Program} {w:World} {A:Around} {E:Value->Shared->Prop} {s:Shared} {r t:Addr} {its:Array Value}
theorem iter_self {i:Int} {Q:Value->Shared->Prop} (hr:IsRv s.heap r t i) (h:Q (.ref r) s):wpAny (model prog w) A (pyIter (.ref r)) Q E s:=by
 refine wpAny_pyIter_slot hr.ty slot_iter (wpAny_call_entry slot_iter hr.ty entry_iter ?_ (args_iter _))
 change wpAny _ _ (ret (.ref r)) _ _ s
 exact wpAny_pure ⟨_,rfl,"reversed",_,hr.ty,slot_next.lookup,h⟩
theorem IsRv.at {h h':Heap} {i:Int} (x:IsRv h r t i) (e:∀ o,h.get? r=some o->h'.get? r=some o):IsRv h' r t i:=let ⟨o,ho,q⟩:=x; ⟨o,e o ho,q⟩
theorem tup_at {h h':Heap} (x:IsTup h t its) (e:∀ o,h.get? t=some o->h'.get? t=some o):IsTup h' t its:=let ⟨o,ho,q⟩:=x; ⟨o,e o ho,q⟩
theorem walks (hh:A.handled=none) (hne:t≠r) (hz:((its.size:Nat):Int)<2 ^ 63) :
  Walks prog w A r [r,t] [r] its.size (fun i v=>its[its.size - 1 - i]?=some v) (fun i h=>i<=its.size/\IsRv h r t ((its.size:Int) - 1 - (i:Int))/\IsTup h t its) where
 sub:=fun b hb=>by simp at hb; simp [hb]
 frame:=fun _ _ _ x hk=>⟨x.1,x.2.1.at fun o e=>hk r (by simp) o e,tup_at x.2.2 fun o e=>hk t (by simp) o e⟩
 item:=fun i s Q E hi x hQ=>by
  have e:(its.size:Int) - 1 - (i:Int)=((its.size - 1 - i:Nat):Int):=by omega
  have hr:=x.2.1
  rw [e] at hr
  have hx:its[its.size - 1 - i]?=some (its[its.size - 1 - i]'(by omega)):=Array.getElem?_eq_getElem (by omega)
  refine next_item hr x.2.2 hx hz fun h' tk hr' hs=>?_
  rw [show ((its.size - 1 - i:Nat):Int) - 1=(its.size:Int) - 1 - ((i+1:Nat):Int) by omega] at hr'
  exact hQ _ h' tk hx ⟨hi,hr',tup_at x.2.2 fun o eo=>(hs.2 t hne).trans eo⟩ fun b o hb eo=>(hs.2 b fun z=>hb (by simp [z])).trans eo
 done:=fun s Q E x hQ=>by
  have hr:=x.2.1
  rw [show (its.size:Int) - 1 - (its.size:Int)=-1 by omega] at hr
  exact next_end hh hr fun h' k=>hQ h' s.toks fun b o hb eo=>k b o (fun z=>hb (by simp [z])) eo
 self:=fun _ _ _ _ x hQ=>iter_self x.2.1 hQ
end
section
variable {prog:Program} {w:World} {A:Around} {E:Value->Shared->Prop} {s:Shared} {R:Result->Shared->Prop} {I S:Addr} {fp wr:List Addr} {n:Nat} {P:Nat->Value->Prop} {St:Nat->Heap->Prop} {T:String}
theorem ext_walk (W:Walks prog w A.in1 I fp wr n P St) (ty:s.TypeIs (.ref I) T) (n2:(Value.type T == Value.type "list")=false) (n3:(Value.type T == Value.type "tuple")=false) (res:Value) {c₀:Nat}
  (hint:∀ (Q:Bool->Shared->Prop) (E:Value->Shared->Prop),(∀ b tk,Q b { s with toks:=tk })->wpAny (model prog w) A.in1 (Builtin.List.listLengthHint (.ref I)) Q E s)
  (st:St 0 s.heap) (hSf:S ∉ fp) (hI:I∈fp) (hS:s.heap.get? S=some { cls:=.type "list",dict:=none,data:=.seq #[] c₀,slots:=#[] }) (hn:n<=sizeLine)
  (fin:∀ h' tk acc c,(∀ b o,b ∉ S::wr->s.heap.get? b=some o->h'.get? b=some o)->h'.get? S=some { cls:=.type "list",dict:=none,data:=.seq acc c,slots:=#[] }->ItemsOf P acc n->R (.ok (.ret res)) { s with heap:=h',toks:=tk }) :
  wpAny (model prog w) A.in1 (Builtin.List.listExtendWith (.ref S) (.ref I) res)
   (fun f s'=>match f with | .done f=>R (.ok f) s' | .again c'=>c'.quiet=true/\codeAny (model prog w) A c' R s') (fun e s'=>R (.error e) s') s:=by
 have nSI:S≠I:=fun z=>hSf (z ▸ hI)
 unfold Builtin.List.listExtendWith
 refine wpAny_bind (wpAny_typeOf ty ?_)
 have n1:Builtin.List.listSameRef (.ref S) (.ref I)=false:=by simp only [Builtin.List.listSameRef,beq_eq_false_iff_ne]; exact nSI
 simp only [n1,n2,n3,Bool.or_false,Bool.false_eq_true,if_false]
 refine wpAny_bind (W.self 0 s _ _ st ?_)
 refine wpAny_bind (wpAny_holding (hint _ _ fun b tk=>?_))
 have go:∀ (h1:Heap) (c1:Nat),(∀ b o,b≠S->s.heap.get? b=some o->h1.get? b=some o)->h1.get? S=some { cls:=.type "list",dict:=none,data:=.seq #[] c1,slots:=#[] } ->
   codeAny (model prog w) A (.builtin "list.extend.loop" ⟨[.ref S,.ref I,res],[]⟩) R { s with heap:=h1,toks:=tk }:=fun h1 c1 k1 hS1=>by
  refine codeAny_extend_loopS W.toS hn S hSf res n 0 _ #[] c1 rfl (Nat.zero_le _) (W.frame 0 s.heap h1 st fun b hb o e=>k1 b o (fun z=>hSf (z ▸ hb)) e) hS1 (ItemsOf.nil P) fun s' acc c m q1 q2=>?_
  obtain ⟨h',g',d',t',o'⟩:=s'
  obtain rfl:g'=s.gens:=m.gens
  obtain rfl:d'=s.drawn:=m.drawn
  obtain rfl:o'=s.os:=m.os
  exact fin h' t' acc c (fun b o hb e=>m.heap b o hb (k1 b o (fun z=>hb (z ▸ List.mem_cons_self)) e)) q1 q2
 split
 ·refine wpAny_bind (wpAny_rule (wpAny_bind (m:=Builtin.List.listTouch (.ref S)) ?_))
  change wpAny (model prog w) _ (updateSeq S (·.push .none) >>= fun _=>updateSeq S (·.pop)) _ _ _
  refine wpAny_bind (wpAny_updateSeq hS rfl ?_)
  have u1:=Heap.get?_update_self (Obj.mapSeq (·.push Value.none)) hS rfl
  refine wpAny_updateSeq (hz:=by seq_fits) u1 rfl ?_
  have u2:=Heap.get?_update_self (Obj.mapSeq (·.pop)) u1 rfl
  exact wpAny_pure ⟨plainId_quiet PySem.F.plain_extend_loop _,go _ _ (fun b o q e=>(Heap.get?_update_other _ _ (Ne.symm q)).trans ((Heap.get?_update_other _ _ (Ne.symm q)).trans e)) u2⟩
 ·exact wpAny_pure ⟨plainId_quiet PySem.F.plain_extend_loop _,go _ _ (fun b o _ e=>e) hS⟩
end
section
variable {prog:Program} {w:World} {A:Around} {E:Value->Shared->Prop} {s:Shared} {I:Addr} {fp wr:List Addr} {n:Nat} {P:Nat->Value->Prop} {St:Nat->Heap->Prop} {T:String}
theorem list_walk {Q:Value->Shared->Prop} (W:Walks prog w A.in1.in1 I fp wr n P St) (ty:s.TypeIs (.ref I) T) (n2:(Value.type T == Value.type "list")=false) (n3:(Value.type T == Value.type "tuple")=false)
  (hint:∀ (h':Heap) (tk:Nat) (Q:Bool->Shared->Prop) (E:Value->Shared->Prop),(∀ b o,s.heap.get? b=some o->h'.get? b=some o)->(∀ b tk,Q b { s with heap:=h',toks:=tk }) ->
   wpAny (model prog w) A.in1.in1 (Builtin.List.listLengthHint (.ref I)) Q E { s with heap:=h',toks:=tk })
  (st:St 0 s.heap) (hfp:∀ b∈fp,b<s.heap.objs.size) (hI:I∈fp) (hn:n<=sizeLine)
  (fin:∀ h' tk acc c,(∀ b o,b ∉ wr->s.heap.get? b=some o->h'.get? b=some o)->h'.get? s.heap.objs.size=some { cls:=.type "list",dict:=none,data:=.seq acc c,slots:=#[] }->ItemsOf P acc n ->
   Q (.ref s.heap.objs.size) { s with heap:=h',toks:=tk }):wpAny (model prog w) A (call (.type "list") [.ref I]) Q E s:=by
 have lt:∀ {c o},s.heap.get? c=some o->c≠s.heap.objs.size:=fun e=>Nat.ne_of_lt (Heap.lt_size e)
 refine callType_codes (Q₁:=fun obj s₁=>obj=.ref s.heap.objs.size/\s₁={ s with heap:=s.heap.push { cls:=.type "list",data:=.seq #[] } }) PySem.F.called_list (PySem.F.typeCall_list_1 _) PySem.F.entry_list_init
  (code_list_new _ ⟨rfl,rfl⟩) fun obj s₁ q=>?_
 obtain ⟨rfl,rfl⟩:=q
 have at1:(s.heap.push { cls:=.type "list",data:=.seq #[] }).get? s.heap.objs.size=some { cls:=.type "list",data:=.seq #[] }:=Heap.get?_push_size _ rfl
 refine ⟨⟨_,at1,rfl⟩,PySem.F.args_list_init_2 _ _, ?_⟩
 change wpAny _ _ (do let old <-Builtin.List.listItems (.ref s.heap.objs.size); Builtin.List.listUpdate (.ref s.heap.objs.size) (fun _=>#[]); letGo old.toList.reverse; Builtin.List.listExtendWith (.ref s.heap.objs.size) (.ref I) .none) _ _ _
 refine wpAny_bind ?_
 unfold Builtin.List.listItems
 refine wpAny_bind (wpAny_seqItems at1 rfl (wpAny_pure ?_))
 change wpAny _ _ (updateSeq s.heap.objs.size (fun _=>#[]) >>= fun _=>letGo (#[]:Array Value).toList.reverse >>= fun _=>Builtin.List.listExtendWith (.ref s.heap.objs.size) (.ref I) .none) _ _ _
 refine wpAny_bind (wpAny_updateSeq at1 rfl ?_)
 have at2:=Heap.get?_update_self (Obj.mapSeq (fun _=>(#[]:Array Value))) at1 rfl
 have oth:∀ b o,s.heap.get? b=some o->((s.heap.push { cls:=.type "list",data:=.seq #[] }).update s.heap.objs.size (Obj.mapSeq (fun _=>(#[]:Array Value)))).get? b=some o :=
  fun b o e=>(Heap.get?_update_other _ _ (Ne.symm (lt e))).trans (Heap.get?_push_of_some _ e)
 refine wpAny_bind (wpAny_letGo ?_)
 obtain ⟨oI,hoI,hcI⟩:=id ty
 refine ext_walk (A:=A.in1) (s:={ s with heap:=_ }) (T:=T) W ⟨oI,oth _ _ hoI,hcI⟩ n2 n3 .none (fun Q E q=>hint _ _ Q E oth q) (W.frame 0 s.heap _ st fun b _ o e=>oth b o e) (fun z=>Nat.lt_irrefl _ (hfp _ z)) hI at2 hn fun h' tk acc c k1 k2 k3=>?_
 refine ⟨rfl,fin h' tk acc c (fun b o hb e=>k1 b o (fun m=>?_) (oth b o e)) k2 k3⟩
 rcases List.mem_cons.mp m with m | m
 ·exact lt e m
 ·exact hb m
end
theorem lri_len:typeLookup (.type "list_reverseiterator") "__len__" = pure none:=by rw [typeLookup_type,builtinLookup_eq_fast]; kernel_rfl
theorem lri_hint:typeLookup (.type "list_reverseiterator") "__length_hint__" = pure (some (.builtin "list_reverseiterator.__length_hint__")):=by rw [typeLookup_type,builtinLookup_eq_fast]; kernel_rfl
theorem hint_lri {prog:Program} {w:World} {A:Around} {E:Value->Shared->Prop} {s:Shared} {I:Addr} {Q:Bool->Shared->Prop} (ty:s.TypeIs (.ref I) "list_reverseiterator") (h:Q false s) :
  wpAny (model prog w) A (Builtin.List.listLengthHint (.ref I)) Q E s:=by
 have f3:isSubtype (.type "list_reverseiterator") (.type "list_reverseiterator")=pure true:=by rw [isSubtype_type]; kernel_rfl
 have sp:splitId "list_reverseiterator.__length_hint__" = some ("list_reverseiterator","__length_hint__"):=by decide +kernel
 unfold Builtin.List.listLengthHint
 refine wpAny_bind (wpAny_specialOf ty lri_len ?_)
 wp_delta
 refine wpAny_ite_split (fun z=>absurd z (by decide)) fun _=>?_
 refine wpAny_bind (wpAny_specialOf ty lri_hint ?_)
 dsimp only
 rw [sp]
 dsimp only
 refine wpAny_bind ?_
 unfold isInstance
 refine wpAny_bind (wpAny_typeOf ty ?_)
 rw [f3]
 refine wpAny_pure ?_
 rw [if_neg (by decide)]
 refine wpAny_ite_split (fun _=>?_) (fun z=>absurd (by decide) z)
 refine wpAny_ite_split (fun z=>absurd z (by decide)) fun _=>?_
 exact wpAny_pure h
theorem rv_len:typeLookup (.type "reversed") "__len__" = pure none:=by rw [typeLookup_type,builtinLookup_eq_fast]; kernel_rfl
theorem rv_slot:Slot "reversed" "__length_hint__" "reversed.__length_hint__" :=
 .of (owner:="reversed") (n:="__length_hint__") (by rw [typeLookup_type,builtinLookup_eq_fast]; kernel_rfl) (by decide +kernel) (by decide +kernel) (by decide +kernel) (by first | exact .inl (by decide +kernel) | exact .inr (by decide +kernel)) (by rw [isSubtype_type]; kernel_rfl)
theorem rv_entry:entryFor table "reversed.__length_hint__" = some Builtin.«reversed.__length_hint__»:=entryFor_of_tree (by kernel_rfl)
theorem rv_args (a:Value):argsOk "reversed.__length_hint__" ⟨[a],[]⟩:=by unfold argsOk; kernel_rfl
section
variable {prog:Program} {w:World} {A:Around} {E:Value->Shared->Prop} {s:Shared} {r t:Addr} {its:Array Value}
theorem hint_rev {Q:Bool->Shared->Prop} (hr:IsRv s.heap r t ((its.size:Int) - 1)) (ht:IsTup s.heap t its) (hz:its.size<=sizeLine) (h:∀ b tk,Q b { s with toks:=tk }) :
  wpAny (model prog w) A (Builtin.List.listLengthHint (.ref r)) Q E s:=by
 have hL:=sizeLine_eq
 have f3:isSubtype (.type "reversed") (.type "reversed")=pure true:=PySem.F.sub_reversed_self
 have sp:splitId "reversed.__length_hint__" = some ("reversed","__length_hint__"):=by decide +kernel
 obtain ⟨o,ho,hc,hd⟩:=id hr
 unfold Builtin.List.listLengthHint
 refine wpAny_bind (wpAny_specialOf hr.ty rv_len ?_)
 wp_delta
 refine wpAny_ite_split (fun z=>absurd z (by decide)) fun _=>?_
 refine wpAny_bind (wpAny_specialOf hr.ty rv_slot.lookup ?_)
 dsimp only
 rw [sp]
 dsimp only
 refine wpAny_bind ?_
 unfold isInstance
 refine wpAny_bind (wpAny_typeOf hr.ty ?_)
 rw [f3]
 refine wpAny_pure ?_
 rw [if_neg (by decide)]
 refine wpAny_ite_split (fun z=>absurd z (by decide)) (fun _=>?_)
 refine wpAny_bind (wpAny_rule ?_)
 rw [rv_slot.bind]
 refine wpAny_bind (wpAny_pure (wpAny_bind (wpAny_attempt (wpAny_call_entry rv_slot hr.ty rv_entry ?_ (rv_args _)))))
 unfold Builtin.«reversed.__length_hint__»
 refine wpAny_bind (wpAny_of_eq (a:=Value.ref r) rfl (wpAny_bind (wpAny_field ho hd (x:=.ref t) rfl ?_)))
 rw [if_neg (show ¬ (Value.ref t == Value.none)=true from Bool.false_ne_true)]
 refine wpAny_bind (len_tuple ht (by omega) ?_)
 refine wpAny_bind (wpAny_of_eq (a:=some (its.size:Int)) rfl ?_)
 refine wpAny_bind (wpAny_field (s:={ s with toks:=_ }) ho hd (x:=rawInt ((its.size:Int) - 1)) rfl ?_)
 show wpAny _ _ (if (its.size:Int)<(its.size:Int) - 1+1 then _ else _) _ _ _
 rw [if_neg (by omega)]
 refine wpAny_bind (wpAny_mkInt (wpAny_pure ⟨_,rfl, ?_⟩))
 refine wpAny_bind (wpAny_of_eq (a:=some ((its.size:Int) - 1+1)) rfl ?_)
 have c1:Builtin.List.listFitsIndex ((its.size:Int) - 1+1)=true:=by
  unfold Builtin.List.listFitsIndex
  simp only [Bool.and_eq_true,decide_eq_true_eq]
  omega
 have c2:Builtin.List.listTooLong ((its.size:Int) - 1+1).toNat=false:=by
  unfold Builtin.List.listTooLong
  simp only [decide_eq_false_iff_not]
  omega
 show wpAny _ _ (if (!Builtin.List.listFitsIndex ((its.size:Int) - 1+1))=true then _ else _) _ _ _
 rw [c1,if_neg (by decide),if_neg (by omega),c2,if_neg (by decide)]
 exact wpAny_pure (h _ _)
end
section
variable {prog:Program} {w:World} {A:Around} {E:Value->Shared->Prop} {s:Shared} {I:Addr} {fp wr:List Addr} {n:Nat} {P:Nat->Value->Prop} {St:Nat->Heap->Prop} {T:String}
theorem collect_walk {Q:List Value->Shared->Prop} (W:Walks prog w A.in1 I fp wr n P St) (ty:s.TypeIs (.ref I) T) (n2:(Value.type T == Value.type "list")=false) (n3:(Value.type T == Value.type "tuple")=false)
  (hint:∀ (h':Heap) (tk:Nat) (Q:Bool->Shared->Prop) (E:Value->Shared->Prop),(∀ b o,s.heap.get? b=some o->h'.get? b=some o)->(∀ b tk,Q b { s with heap:=h',toks:=tk }) ->
   wpAny (model prog w) A.in1 (Builtin.List.listLengthHint (.ref I)) Q E { s with heap:=h',toks:=tk })
  (st:St 0 s.heap) (hfp:∀ b∈fp,b<s.heap.objs.size) (hI:I∈fp) (hn:n<=sizeLine)
  (fin:∀ h' tk acc,(∀ b o,b ∉ wr->s.heap.get? b=some o->h'.get? b=some o)->ItemsOf P acc n->Q acc.toList { s with heap:=h',toks:=tk }):wpAny (model prog w) A (collect (.ref I)) Q E s:=by
 have lt:∀ {c o},s.heap.get? c=some o->c≠s.heap.objs.size:=fun e=>Nat.ne_of_lt (Heap.lt_size e)
 unfold collect
 refine wpAny_bind (wpAny_runValue (codeAny_builtin PySem.F.entry_proto_collect ?_))
 rw [Around.under_plainId PySem.F.plain_proto_collect _]
 show wpAny _ A.in1 (newList [] >>= fun l=>again (.builtin "list.__iadd__" ⟨[l,.ref I],[]⟩)) _ _ s
 refine wpAny_bind (wpAny_newObj_type ?_)
 refine wpAny_pure ⟨plainId_quiet PySem.F.plain_list_iadd _,codeAny_builtin PySem.F.entry_list_iadd ?_⟩
 rw [Around.under_plainId PySem.F.plain_list_iadd _]
 show wpAny _ A.in1 (Builtin.List.listExtendWith (.ref s.heap.objs.size) (.ref I) (.ref s.heap.objs.size)) _ _ _
 have oth:∀ b o,s.heap.get? b=some o->(s.heap.push { cls:=.type "list",data:=.seq ([]:List Value).toArray }).get? b=some o:=fun b o e=>Heap.get?_push_of_some _ e
 have at1:(s.heap.push { cls:=.type "list",data:=.seq ([]:List Value).toArray }).get? s.heap.objs.size=some { cls:=.type "list",data:=.seq ([]:List Value).toArray }:=Heap.get?_push_size _ rfl
 obtain ⟨oI,hoI,hcI⟩:=id ty
 let RR:Result->Shared->Prop:=fun r s'=>match r with
  | .ok (.ret v)=>wpAny (model prog w) A (match v with
    | .ref a=>do
     let o <-load a
     match o.data with
      | .seq xs _=>pure xs.toList
      | _=>unsupported "internal:collect"
    | _=>unsupported "internal:collect") Q E s'
  | .ok _=>False
  | .error e=>E e s'
 refine ext_walk (R:=RR) (A:=A) (s:={ s with heap:=_ }) (T:=T) W ⟨oI,oth _ _ hoI,hcI⟩ n2 n3 _ (fun Q E q=>hint _ _ Q E oth q) (W.frame 0 s.heap _ st fun b _ o e=>oth b o e) (fun z=>Nat.lt_irrefl _ (hfp _ z)) hI at1 hn fun h' tk acc c k1 k2 k3=>?_
 show wpAny _ A (load s.heap.objs.size >>= _) _ _ _
 refine wpAny_bind (wpAny_load k2 ?_)
 refine wpAny_pure (fin h' tk acc (fun b o hb e=>k1 b o (fun m=>?_) (oth b o e)) k3)
 rcases List.mem_cons.mp m with m | m
 ·exact lt e m
 ·exact hb m
end
theorem meets_tuple_rev (I l:Addr) (items:Array Value) (hsz:items.size<=sizeLine) (hne:l≠I) :
  Meets (Builtin.«tuple.__new__» ⟨[.type "tuple",.ref I],[]⟩)
   (fun A R s=>A.handled=none/\s.heap.IsRevIter I l ((items.size:Int) - 1)/\s.heap.IsList l items/\∀ (h':Heap) (tk:Nat) (acc:Array Value),(∀ b o,b ∉ [I]->s.heap.get? b=some o->h'.get? b=some o)->ItemsOf (fun i v=>items[items.size - 1 - i]?=some v) acc items.size ->
    R (.ok (.ret (.ref h'.objs.size))) { s with heap:=h'.push { cls:=.type "tuple",data:=.seq acc },toks:=tk }) :=
 .of_wp fun prog w A R s h=>by
  obtain ⟨hh,hr,hl,h⟩:=h
  have hsub:=sub_tuple_self
  have hinit:=init_tuple_lookup
  have hmh:=madeHere_tuple
  have hT:s.TypeIs (.ref I) "list_reverseiterator" := hr.typeIs
  have hI:I<s.heap.objs.size:=by obtain ⟨o,ho,_⟩:=hr; exact Heap.lt_size ho
  have hL:l<s.heap.objs.size:=by obtain ⟨o,ho,_⟩:=hl; exact Heap.lt_size ho
  have col:∀ {Q:List Value->Shared->Prop} {E:Value->Shared->Prop},(∀ (h':Heap) (tk:Nat) (acc:Array Value),(∀ b o,b ∉ [I]->s.heap.get? b=some o->h'.get? b=some o)->ItemsOf (fun i v=>items[items.size - 1 - i]?=some v) acc items.size->Q acc.toList { s with heap:=h',toks:=tk })->wpAny (model prog w) A.in1 (collect (.ref I)) Q E s:=fun {Q E} fin =>
   collect_walk (T:="list_reverseiterator") (Walks.listRev (A:=A.in1.in1) hh I l hne items) hT (by decide) (by decide) (fun h' tk Q E k q=>hint_lri ((hr.at fun o e=>k _ o e).typeIs (s:={ s with heap:=h',toks:=tk })) (q _ _))
    ⟨Nat.zero_le _,by simpa using hr,hl⟩ (fun b hb=>by simp only [List.mem_cons,List.not_mem_nil,or_false] at hb; rcases hb with e | e <;> rw [e] <;> assumption) (by simp) hsz fin
  wp_walk using wpAny_typeOf hT,col
  intro h' tk acc hk hacc
  show wpAny _ _ (Builtin.Tuple.tupleExact acc.toList.toArray >>= fun v=>ret v) _ _ _
  unfold Builtin.Tuple.tupleExact
  refine wpAny_bind (wpAny_newObj_type ?_ (show acc.toList.toArray.size<=sizeLine by simp only [Array.toArray_toList]; rw [hacc.1]; exact hsz))
  refine wpAny_pure ⟨_,rfl, ?_⟩
  have e:acc.toList.toArray=acc:=by simp
  rw [e]
  exact h h' tk acc hk hacc
section
variable {prog:Program} {w:World} {A:Around} {E:Value->Shared->Prop} {s:Shared}
theorem call_tuple_rev {I l:Addr} {items:Array Value} {Q:Value->Shared->Prop} (hh:A.handled=none) (hne:l≠I) (hsz:items.size<=sizeLine) (hr:s.heap.IsRevIter I l ((items.size:Int) - 1)) (hl:s.heap.IsList l items)
  (h:∀ (h':Heap) (tk:Nat) (acc:Array Value),(∀ b o,b ∉ [I]->s.heap.get? b=some o->h'.get? b=some o)->ItemsOf (fun i v=>items[items.size - 1 - i]?=some v) acc items.size->Q (.ref h'.objs.size) { s with heap:=h'.push { cls:=.type "tuple",data:=.seq acc },toks:=tk }) :
  wpAny (model prog w) A (call (.type "tuple") [.ref I]) Q E s:=by
 refine callType_new PySem.F.called_tuple (by decide) (PySem.F.typeCall_tuple_1 _) (PySem.F.newCall_tuple_1 _) (fun obj=>PySem.F.args_object_init_2 obj _) PySem.F.entry_tuple_new
  (meets_tuple_rev I l items hsz hne) ⟨hh,hr,hl,fun h' tk acc hk hacc=>⟨⟨_,Heap.get?_push_size _ rfl,rfl⟩,h h' tk acc hk hacc⟩⟩
end
end RevA
namespace IdxT
open PySem PySem.SeqAt PySem.MeetsSeq
open PySem.AutoSeq1 (wpAny_loadPart')
theorem wpAny_forIn_rng {M:Model} {A:Around} {E:Value->Shared->Prop} {s:Shared} {β:Type} (f:Nat->β->Sem (ForInStep β)) (I:List Nat->β->Shared->Prop) (Q:β->Shared->Prop)
  (turn:∀ x rest b s,I (x::rest) b s->wpAny M A (f x b) (fun r s'=>match r with | .yield b'=>I rest b' s' | .done b'=>Q b' s') E s)
  (fin:∀ b s,I [] b s->Q b s) (k:Nat) (b:β) (h:I (List.range' 0 k) b s):wpAny M A (forIn [0:k] b f) Q E s:=by
 rw [Std.Legacy.Range.forIn_eq_forIn_range']
 have e:List.range' ([0:k]:Std.Legacy.Range).start ([0:k]:Std.Legacy.Range).size ([0:k]:Std.Legacy.Range).step=List.range' 0 k:=by simp [Std.Legacy.Range.size]
 rw [e]
 exact wpAny_forIn_list f I Q turn fin _ b h
theorem tuple_index (l:Addr) (items:Array Value) (n:Nat) (dd:Option Addr) (sl:Array (Option Value)) (x:Value) (e:Value->Bool) (j:Nat) (hj:j<items.size) (hit:e items[j]=true) (hno:∀ m (hm:m<items.size),m<j->e items[m]=false) :
  Meets (Builtin.«tuple.index» ⟨[.ref l,x],[]⟩)
   (fun A R s=>s.heap.get? l=some { cls:=.type "tuple",dict:=dd,data:=.seq items n,slots:=sl }/\(∀ y,y∈items->EqAt A.in1 s y x (e y))/\R (.ok (.ret (.int j s.toks))) { s with toks:=s.toks+1 }) :=
 .of_wp fun prog w A R s h=>by
  obtain ⟨hp,g,d,tk,os⟩:=s; obtain ⟨hl,he,h⟩:=h
  wp_walk using wpAny_loadPart' hl,wpAny_forIn_rng _ (fun rest b s'=>b.1=none/\s'=⟨hp,g,d,tk,os⟩/\∃ i,i<=j/\rest=List.range' i (items.size - i)) _
  case turn =>
   rintro y rest b s' ⟨hb,rfl,i,hi,er⟩
   have hlt:i<items.size:=by omega
   rw [show items.size - i=(items.size - (i+1))+1 by omega,List.range'_succ] at er
   injection er with e1 e2
   subst e1
   have hx:items[y]?=some items[y]:=Array.getElem?_eq_getElem hlt
   rw [hx]
   refine wpAny_bind (he _ (Array.getElem_mem hlt) prog w _ _ ?_)
   by_cases hy:y=j
   ·subst hy
    rw [hit]
    wp_walk
    exact ⟨_,rfl,h⟩
   ·rw [hno y hlt (by omega)]
    wp_walk
    exact ⟨rfl,rfl,y+1,by omega,e2⟩
  case fin =>
   rintro ⟨b1,b2⟩ s' ⟨hb,rfl,i,hi,er⟩
   exfalso
   have:=congrArg List.length er
   simp at this
   omega
  case h =>
   refine ⟨rfl,rfl,0,Nat.zero_le _, ?_⟩
   simp
end IdxT
namespace L2
open PySem PySem.Spec PyProof.Rows
theorem items_rev {its acc:Array Value} (h:ItemsOf (fun i v=>its[its.size - 1 - i]?=some v) acc its.size):acc.toList=its.toList.reverse:=by
 refine List.ext_getElem? fun i=>?_
 by_cases hi:i<its.size
 ·have ha:i<acc.size:=by rw [h.1]; exact hi
  have e:=h.2 i _ (Array.getElem?_eq_getElem ha)
  rw [Array.getElem?_toList,Array.getElem?_eq_getElem ha, <-e,List.getElem?_reverse (by simpa using hi),Array.getElem?_toList,Array.length_toList]
 ·rw [List.getElem?_eq_none (by rw [Array.length_toList,h.1]; omega),List.getElem?_eq_none (by rw [List.length_reverse,Array.length_toList]; omega)]
def tRevT (K:W.Frag) (t:TA):TE:=fun σ H Q=>t σ H fun vs H1=>∃ p xs,vs=[.ref p]/\Yg K H1 p xs/\∀ q,H1 q=none->Q (.ref q) (Z6 H1 q (.lst xs.reverse))
def tRevL (K:W.Frag) (t:TA):TE:=fun σ H Q=>t σ H fun vs H1=>∃ p xs,vs=[.ref p]/\Yc K H1 p xs/\∀ q,H1 q=none->Q (.ref q) (Z6 H1 q (.lst xs.reverse))
section
variable {X:Cx} {p p2 pos pos2:Pos} {a:Expr} {t:TA}
theorem pe_listRevT (hc:X.calm=true) (hg:Gl X "list") (hm:X.mg "list" = none) (hgz:Gl X "reversed") (hmz:X.mg "reversed" = none) (ha:PA X [a] t)
  (he:starEach [.Call (.Name "reversed" p2) [a] [] pos2] X.env=[(false,eval (.Call (.Name "reversed" p2) [a] [] pos2) X.env)]:=by rfl)
  (he2:starEach [a] X.env=(false,eval a X.env)::starEach [] X.env:=by rfl) (hpl:(backTo pos2 (starEach [] X.env)).any (·.1)=false:=by rfl) :
  PE X (.Call (.Name "list" p) [.Call (.Name "reversed" p2) [a] [] pos2] [] pos) (tRevT X.K t):=by
 intro pins s σ H Q I h
 refine wpAny_Call_Name_kw (Ud I hg hm (by decide +kernel:bootBuiltins "list" = some (.type "list")) ?_ (by decide) (by decide))
 refine callWith_type1 ?_ he rfl
 rw [he]
 change wpAny _ _ (spliced ((false,eval (.Call (.Name "reversed" p2) [a] [] pos2) X.env)::[])) _ _ s
 refine Calls.spliced_cons ?_
 refine wpAny_Call_Name_kw (Ud I hgz hmz (by decide +kernel:bootBuiltins "reversed" = some (.type "reversed")) ?_ (by decide) (by decide))
 refine callWith_type1 (Vv (ha pos2 pins s σ H _ I h) fun us s1 ⟨vs,H1,I1,r1,q1⟩=>?_) he2 hpl
 obtain ⟨l,xs,rfl,hx,q⟩:=q1
 obtain ⟨u1,rfl,e1⟩:=vals1 r1
 cases e1
 obtain ⟨its,rv,pl,z⟩:=I1.tuple hx
 have hz:its.toArray.size<=sizeLine:=by rw [List.size_toArray, <-rv.length]; exact z
 have h63:((its.toArray.size:Nat):Int)<2 ^ 63:=by have:=sizeLine_eq; omega
 refine RevA.call_rev pl h63 fun tk=>?_
 refine Calls.spliced_nil ?_
 have hl:l<s1.heap.objs.size:=pl.lt
 have nl:l≠s1.heap.objs.size:=Nat.ne_of_lt hl
 have k1:∀ b o,s1.heap.get? b=some o->(s1.heap.push (RevA.rvO l ((its.toArray.size:Int) - 1))).get? b=some o:=fun b o e=>Heap.get?_push_of_some _ e
 have rv1:RevA.IsRv (s1.heap.push (RevA.rvO l ((its.toArray.size:Int) - 1))) s1.heap.objs.size l ((its.toArray.size:Int) - 1):=⟨_,Heap.get?_push_size _ rfl,rfl,rfl⟩
 have pl1:=RevA.tup_at pl fun o e=>k1 l o e
 refine RevA.list_walk (s:={ s1 with heap:=_,toks:=tk }) (T:="reversed") (RevA.walks (t:=l) (r:=s1.heap.objs.size) (its:=its.toArray) (I1.ok.hd hc) nl h63) rv1.ty (by decide) (by decide)
  (fun h' tk' Q E k q=>RevA.hint_rev (rv1.at fun o e=>k _ o e) (RevA.tup_at pl1 fun o e=>k _ o e) hz q) ⟨Nat.zero_le _,by simpa using rv1,pl1⟩ (fun b hb=>?_) (by simp) hz fun h3 tk3 acc c k3 at3 it3=>?_
 ·simp only [List.mem_cons,List.not_mem_nil,or_false] at hb
  rw [Heap.size_push]
  rcases hb with e | e
  ·rw [e]; exact Nat.lt_succ_self _
  ·rw [e]; exact Nat.lt_succ_of_lt hl
 have kk:∀ b o,s1.heap.get? b=some o->h3.get? b=some o:=fun b o e=>k3 b o (by simp only [List.mem_cons,List.not_mem_nil,or_false]; exact Nat.ne_of_lt (Heap.lt_size e)) (k1 b o e)
 have eacc:acc=(its.reverse).toArray:=by
  have:=items_rev it3
  apply Array.ext'
  simpa using this
 rw [eacc] at at3
 dsimp only at at3
 rw [Heap.size_push] at at3 ⊢
 exact ⟨.ref _,_,I1.laid (a:=s1.heap.objs.size+1) (o:=.lst xs.reverse) (t':=tk3) kk (Nat.le_succ _) ⟨by rw [List.length_reverse]; exact z,its.reverse,c,Z0.rev rv,at3⟩,rfl,q _ (I1.hok.fresh (Nat.le_succ _))⟩
theorem pe_listRevL (hc:X.calm=true) (hg:Gl X "list") (hm:X.mg "list" = none) (hgz:Gl X "reversed") (hmz:X.mg "reversed" = none) (ha:PA X [a] t)
  (he:starEach [.Call (.Name "reversed" p2) [a] [] pos2] X.env=[(false,eval (.Call (.Name "reversed" p2) [a] [] pos2) X.env)]:=by rfl)
  (he2:starEach [a] X.env=(false,eval a X.env)::starEach [] X.env:=by rfl) (hpl:(backTo pos2 (starEach [] X.env)).any (·.1)=false:=by rfl) :
  PE X (.Call (.Name "list" p) [.Call (.Name "reversed" p2) [a] [] pos2] [] pos) (tRevL X.K t):=by
 intro pins s σ H Q I h
 refine wpAny_Call_Name_kw (Ud I hg hm (by decide +kernel:bootBuiltins "list" = some (.type "list")) ?_ (by decide) (by decide))
 refine callWith_type1 ?_ he rfl
 rw [he]
 change wpAny _ _ (spliced ((false,eval (.Call (.Name "reversed" p2) [a] [] pos2) X.env)::[])) _ _ s
 refine Calls.spliced_cons ?_
 refine wpAny_Call_Name_kw (Ud I hgz hmz (by decide +kernel:bootBuiltins "reversed" = some (.type "reversed")) ?_ (by decide) (by decide))
 refine callWith_type1 (Vv (ha pos2 pins s σ H _ I h) fun us s1 ⟨vs,H1,I1,r1,q1⟩=>?_) he2 hpl
 obtain ⟨l,xs,rfl,hx,q⟩:=q1
 obtain ⟨u1,rfl,e1⟩:=vals1 r1
 cases e1
 obtain ⟨its,rv,pl,z⟩:=I1.list hx
 have hz:its.toArray.size<=sizeLine:=by rw [List.size_toArray, <-rv.length]; exact z
 have h63:((its.toArray.size:Nat):Int)<2 ^ 63:=by have:=sizeLine_eq; omega
 refine call_reversed_list pl.isList ?_
 refine Calls.spliced_nil ?_
 have hl:l<s1.heap.objs.size:=by obtain ⟨_,e,_⟩:=pl.isList; exact Heap.lt_size e
 have nl:l≠s1.heap.objs.size:=Nat.ne_of_lt hl
 have k1:∀ b o,s1.heap.get? b=some o->(s1.heap.push (revObj l ((its.toArray.size:Int) - 1))).get? b=some o:=fun b o e=>Heap.get?_push_of_some _ e
 have rv1:Heap.IsRevIter (s1.heap.push (revObj l ((its.toArray.size:Int) - 1))) s1.heap.objs.size l ((its.toArray.size:Int) - 1):=⟨_,Heap.get?_push_size _ rfl,rfl,rfl⟩
 have pl1:=pl.isList.at (h':=s1.heap.push (revObj l ((its.toArray.size:Int) - 1))) fun o e=>k1 l o e
 refine RevA.list_walk (s:={ s1 with heap:=_ }) (T:="list_reverseiterator") (Walks.listRev (A:=X.A.in1.in1) (show X.A.in1.in1.handled=none from I1.ok.hd hc) s1.heap.objs.size l nl its.toArray) (rv1.typeIs (s:={ s1 with heap:=_ })) (by decide) (by decide)
  (fun h' tk' Q E k q=>RevA.hint_lri ((rv1.at fun o e=>k _ o e).typeIs (s:={ s1 with heap:=h',toks:=tk' })) (q _ _)) ⟨Nat.zero_le _,by simpa using rv1,pl1⟩ (fun b hb=>?_) (by simp) hz fun h3 tk3 acc c k3 at3 it3=>?_
 ·simp only [List.mem_cons,List.not_mem_nil,or_false] at hb
  rw [Heap.size_push]
  rcases hb with e | e
  ·rw [e]; exact Nat.lt_succ_self _
  ·rw [e]; exact Nat.lt_succ_of_lt hl
 have kk:∀ b o,s1.heap.get? b=some o->h3.get? b=some o:=fun b o e=>k3 b o (by simp only [List.mem_cons,List.not_mem_nil,or_false]; exact Nat.ne_of_lt (Heap.lt_size e)) (k1 b o e)
 have eacc:acc=(its.reverse).toArray:=by
  have:=items_rev it3
  apply Array.ext'
  simpa using this
 rw [eacc] at at3
 dsimp only at at3
 rw [Heap.size_push] at at3 ⊢
 exact ⟨.ref _,_,I1.laid (a:=s1.heap.objs.size+1) (o:=.lst xs.reverse) (t':=tk3) kk (Nat.le_succ _) ⟨by rw [List.length_reverse]; exact z,its.reverse,c,Z0.rev rv,at3⟩,rfl,q _ (I1.hok.fresh (Nat.le_succ _))⟩
end
section
variable {X:Cx} {e:Expr} {t1 t2:TE}
theorem PE.or (h1:PE X e t1) (h2:PE X e t2):PE X e (fun σ H Q=>t1 σ H Q\/t2 σ H Q):=by
 intro pins s σ H Q I h
 rcases h with h | h
 ·exact h1 pins s σ H Q I h
 ·exact h2 pins s σ H Q I h
end
section
variable {X:Cx} {p p2 pos pos2:Pos} {a:Expr} {t:TA}
theorem pe_listRev (hc:X.calm=true) (hg:Gl X "list") (hm:X.mg "list" = none) (hgz:Gl X "reversed") (hmz:X.mg "reversed" = none) (ha:PA X [a] t)
  (he:starEach [.Call (.Name "reversed" p2) [a] [] pos2] X.env=[(false,eval (.Call (.Name "reversed" p2) [a] [] pos2) X.env)]:=by rfl)
  (he2:starEach [a] X.env=(false,eval a X.env)::starEach [] X.env:=by rfl) (hpl:(backTo pos2 (starEach [] X.env)).any (·.1)=false:=by rfl) :
  PE X (.Call (.Name "list" p) [.Call (.Name "reversed" p2) [a] [] pos2] [] pos) (fun σ H Q=>tRevT X.K t σ H Q\/tRevL X.K t σ H Q) :=
 PE.or (pe_listRevT hc hg hm hgz hmz ha he he2 hpl) (pe_listRevL hc hg hm hgz hmz ha he he2 hpl)
def tTupRev (K:W.Frag) (t:TA):TE:=fun σ H Q=>t σ H fun vs H1=>∃ p xs,vs=[.ref p]/\Yc K H1 p xs/\∀ q,H1 q=none->Q (.ref q) (Z6 H1 q (.tup xs.reverse))
theorem pe_tupRev (hc:X.calm=true) (hg:Gl X "tuple") (hm:X.mg "tuple" = none) (hgz:Gl X "reversed") (hmz:X.mg "reversed" = none) (ha:PA X [a] t)
  (he:starEach [.Call (.Name "reversed" p2) [a] [] pos2] X.env=[(false,eval (.Call (.Name "reversed" p2) [a] [] pos2) X.env)]:=by rfl)
  (he2:starEach [a] X.env=(false,eval a X.env)::starEach [] X.env:=by rfl) (hpl:(backTo pos2 (starEach [] X.env)).any (·.1)=false:=by rfl) :
  PE X (.Call (.Name "tuple" p) [.Call (.Name "reversed" p2) [a] [] pos2] [] pos) (tTupRev X.K t):=by
 intro pins s σ H Q I h
 refine wpAny_Call_Name_kw (Ud I hg hm (by decide +kernel:bootBuiltins "tuple" = some (.type "tuple")) ?_ (by decide) (by decide))
 refine callWith_type1 ?_ he rfl
 rw [he]
 change wpAny _ _ (spliced ((false,eval (.Call (.Name "reversed" p2) [a] [] pos2) X.env)::[])) _ _ s
 refine Calls.spliced_cons ?_
 refine wpAny_Call_Name_kw (Ud I hgz hmz (by decide +kernel:bootBuiltins "reversed" = some (.type "reversed")) ?_ (by decide) (by decide))
 refine callWith_type1 (Vv (ha pos2 pins s σ H _ I h) fun us s1 ⟨vs,H1,I1,r1,q1⟩=>?_) he2 hpl
 obtain ⟨l,xs,rfl,hx,q⟩:=q1
 obtain ⟨u1,rfl,e1⟩:=vals1 r1
 cases e1
 obtain ⟨its,rv,pl,z⟩:=I1.list hx
 have hz:its.toArray.size<=sizeLine:=by rw [List.size_toArray, <-rv.length]; exact z
 refine call_reversed_list pl.isList ?_
 refine Calls.spliced_nil ?_
 have hl:l<s1.heap.objs.size:=by obtain ⟨_,e,_⟩:=pl.isList; exact Heap.lt_size e
 have nl:l≠s1.heap.objs.size:=Nat.ne_of_lt hl
 have k1:∀ b o,s1.heap.get? b=some o->(s1.heap.push (revObj l ((its.toArray.size:Int) - 1))).get? b=some o:=fun b o e=>Heap.get?_push_of_some _ e
 have rv1:Heap.IsRevIter (s1.heap.push (revObj l ((its.toArray.size:Int) - 1))) s1.heap.objs.size l ((its.toArray.size:Int) - 1):=⟨_,Heap.get?_push_size _ rfl,rfl,rfl⟩
 have pl1:=pl.isList.at (h':=s1.heap.push (revObj l ((its.toArray.size:Int) - 1))) fun o e=>k1 l o e
 refine RevA.call_tuple_rev (s:={ s1 with heap:=_ }) (A:=X.A) (I1.ok.hd hc) nl hz rv1 pl1 fun h3 tk3 acc k3 it3=>?_
 have kk:∀ b o,s1.heap.get? b=some o->h3.get? b=some o:=fun b o e=>k3 b o (by simp only [List.mem_cons,List.not_mem_nil,or_false]; exact Nat.ne_of_lt (Heap.lt_size e)) (k1 b o e)
 have eacc:acc=(its.reverse).toArray:=by
  have:=items_rev it3
  apply Array.ext'
  simpa using this
 have J:Zs X pins σ H1 { s1 with heap:=h3,toks:=tk3 }:=I1.kept kk
 rw [eacc]
 exact ⟨.ref _,_,J.laid (a:=h3.objs.size) (o:=.tup xs.reverse) (t':=tk3) (fun b o e=>Heap.get?_push_of_some _ e) (Nat.le_refl _) ⟨by rw [List.length_reverse]; exact z,its.reverse,Z0.rev rv,IsTup.new _ _⟩,rfl,q _ (J.hok.fresh (Nat.le_refl _))⟩
def Irv (K:W.Frag) (a:Addr) (xs:List V):It:=⟨fun i H=>i<xs.length/\Yg K H a xs,fun i H x H'=>H'=H/\xs.reverse[i]?=some x,fun i H=>xs.length<=i⟩
theorem turn_rev {P:Program} {w:World} {K:W.Frag} {tg:Expr} (a it:Addr) (xs:List V) (hz:xs.length<=sizeLine):Turn P w K tg (Irv K a xs) [it] it (fun i h=>i<=xs.length/\RevA.IsRv h it a ((xs.length:Int) - 1 - (i:Int))) where
 mem:=by simp
 obj:=fun i h st b hb=>by
  have e:b=it:=by simpa using hb
  subst e
  obtain ⟨_,o,e,c,d⟩:=st
  exact ⟨o,e,fun v z=>by rw [d] at z; cases z⟩
 keep:=fun i h h' st k=>⟨st.1,st.2.at fun o e=>k it (by simp) o e⟩
 item:=by
  intro X hP hw hK hc i pins s σ H E I hf st hg
  subst hP hw hK
  obtain ⟨hi,hq⟩:=hg
  obtain ⟨its,rv,p,_⟩:=I.tuple hq
  have hl:=rv.length
  have hsz:its.toArray.size=xs.length:=by rw [List.size_toArray]; exact hl.symm
  obtain ⟨f0,f1,f2,f3,f4,f5⟩:=hf it (by simp)
  have hr:=st.2
  rw [show (xs.length:Int) - 1 - (i:Int)=((xs.length - 1 - i:Nat):Int) by omega] at hr
  have hx:xs[xs.length - 1 - i]?=some (xs[xs.length - 1 - i]'(by omega)):=List.getElem?_eq_getElem (by omega)
  obtain ⟨u,hu,ru⟩:=rv.get hx
  have h63:((its.toArray.size:Nat):Int)<2 ^ 63:=by have:=sizeLine_eq; omega
  refine RevA.next_item hr p (x:=u) (by simpa using hu) h63 fun h' tk hr' hs=>?_
  have I1:Zs X pins σ H { s with heap:=h',toks:=tk }:=I.turned (fun b o hb e=>(hs.2 b hb).trans e) f0 f1 f3 f4 f5
  obtain ⟨o,e,c,d⟩:=id hr'
  rw [show ((xs.length - 1 - i:Nat):Int) - 1=(xs.length:Int) - 1 - ((i+1:Nat):Int) by omega] at hr'
  refine ⟨u,rfl,go_of (s:={ s with heap:=h',toks:=tk }) e c d (by decide) ⟨_,H,I1,ru,⟨rfl, ?_⟩,⟨hi,hr'⟩,fun b hb=>(hf b hb).1⟩⟩
  rw [List.getElem?_reverse hi]
  exact hx
 done:=by
  intro X hP hw hK hc i pins s σ H E I hf st hg
  subst hP hw hK
  obtain ⟨f0,f1,f2,f3,f4,f5⟩:=hf it (by simp)
  have hr:=st.2
  have hi:(i:Int)=xs.length:=by have:xs.length<=i:=hg; have:=st.1; omega
  rw [show (xs.length:Int) - 1 - (i:Int)=-1 by omega] at hr
  exact RevA.next_end (I.ok.hd hc) hr fun h' k=>⟨rfl,I.turned (t':=s.toks) (fun b o hb e=>k b o hb e) f0 f1 f3 f4 f5⟩
 self:=fun _ _ _ _ _ st h=>RevA.iter_self st.2 h
def iRev (K:W.Frag) (t:TA):TI:=fun σ H R=>t σ H fun vs H1=>∃ p xs,vs=[.ref p]/\Yg K H1 p xs/\R (Irv K p xs) H1
theorem pi_rev {tg:Expr} (hgz:Gl X "reversed") (hmz:X.mg "reversed" = none) (ha:PA X [a] t)
  (he2:starEach [a] X.env=(false,eval a X.env)::starEach [] X.env:=by rfl) (hpl:(backTo pos2 (starEach [] X.env)).any (·.1)=false:=by rfl) :
  PI X tg (.Call (.Name "reversed" p2) [a] [] pos2) (iRev X.K t):=by
 intro pins s σ H R I h
 refine wpAny_Call_Name_kw (Ud I hgz hmz (by decide +kernel:bootBuiltins "reversed" = some (.type "reversed")) ?_ (by decide) (by decide))
 refine callWith_type1 (Vv (ha pos2 pins s σ H _ I h) fun us s1 ⟨vs,H1,I1,r1,q1⟩=>?_) he2 hpl
 obtain ⟨l,xs,rfl,hx,q⟩:=q1
 obtain ⟨u1,rfl,e1⟩:=vals1 r1
 cases e1
 obtain ⟨its,rv,pl,z⟩:=I1.tuple hx
 have hl:=rv.length
 have hsz:its.toArray.size=xs.length:=by rw [List.size_toArray]; exact hl.symm
 have h63:((its.toArray.size:Nat):Int)<2 ^ 63:=by have:=sizeLine_eq; omega
 refine RevA.call_rev pl h63 fun tk=>?_
 have J:Zs X pins σ H1 { s1 with heap:=s1.heap.push (RevA.rvO l ((its.toArray.size:Int) - 1)),toks:=tk }:=I1.kept fun b o e=>Heap.get?_push_of_some _ e
 have rv1:RevA.IsRv (s1.heap.push (RevA.rvO l ((its.toArray.size:Int) - 1))) s1.heap.objs.size l ((its.toArray.size:Int) - 1):=⟨_,Heap.get?_push_size _ rfl,rfl,rfl⟩
 refine RevA.iter_self (s:={ s1 with heap:=_,toks:=tk }) rv1 ?_
 refine ⟨_,[s1.heap.objs.size],_,_,H1,rfl,J,turn_rev l _ xs z,⟨Nat.zero_le _, ?_⟩,fun b hb=>?_,q⟩
 ·rw [hsz] at rv1
  simpa [hsz] using rv1
 ·have e:b=s1.heap.objs.size:=by simpa using hb
  subst e
  exact I1.fpOk (Nat.le_refl _) (I1.hok.fresh (Nat.le_refl _))
end
theorem for_rev {K:PySem.W.Frag} {a:Addr} {xs:List V} {g:TG} {tb:TS} {D:Ends} {σ:St} {H:Hp} (Pv:Nat->St->Hp->Prop) (h0:Pv 0 σ H) (hl:∀ i σ H,i<=xs.length->Pv i σ H->Yg K H a xs)
  (hs:∀ i x σ H,xs.reverse[i]?=some x->Pv i σ H->g x σ H fun σ2 H2=>tb { D with nx:=Pv (i+1),ct:=Pv (i+1),bk:=D.nx } σ2 H2) (hd:∀ σ H,Pv xs.length σ H->D.nx σ H) :
  ∃ W:Nat->Nat->St->Hp->Prop,(∃ m,W 0 m σ H)/\∀ i m σ H,W i m σ H ->
   ((Irv K a xs).stop i H/\D.nx σ H)\/((Irv K a xs).go i H/\∃ N:St->Hp->Prop,(∀ σ' H',N σ' H'->∃ m',m'<m/\W (i+1) m' σ' H')/\∀ x H',(Irv K a xs).yld i H x H'->g x σ H' fun σ2 H2=>tb { D with nx:=N,ct:=N,bk:=D.nx } σ2 H2):=by
 refine ⟨fun i m σ H=>m=xs.length - i/\i<=xs.length/\Pv i σ H,⟨xs.length,by simp,Nat.zero_le _,h0⟩, ?_⟩
 rintro i m σ H ⟨rfl,hi,p⟩
 have q:=hl i σ H hi p
 by_cases hlt:i<xs.length
 ·refine .inr ⟨⟨hlt,q⟩,Pv (i+1),fun σ' H' p'=>⟨xs.length - (i+1),by omega,rfl,hlt,p'⟩,fun x H' y=>?_⟩
  obtain ⟨e,y⟩:=y
  subst e
  exact hs i x σ _ y p
 ·have e:i=xs.length:=by omega
  subst e
  exact .inl ⟨Nat.le_refl _,hd σ H p⟩
section
variable {X:Cx}
theorem eqStrs {ss:List Str} {us:List Value} (r:Z0 (ss.map V.str) us):∀ y∈us,∃ x t,x∈ss/\y=.str x t:=by
 induction ss generalizing us with
 | nil=>intro y m; cases r; exact (List.not_mem_nil m).elim
 | cons x ss ih =>
  intro y m
  cases r with
  | cons e t =>
   obtain ⟨tk,rfl⟩:=e
   rcases List.mem_cons.mp m with rfl | m
   ·exact ⟨x,tk,List.mem_cons_self,rfl⟩
   ·obtain ⟨x',t',mx,e⟩:=ih t y m
    exact ⟨x',t',List.mem_cons_of_mem _ mx,e⟩
def isS (z:Str) (v:Value):Bool:=match v with
 | .str x _=>decide (x=z)
 | _=>false
theorem isS_at {ss:List Str} {us:List Value} (r:Z0 (ss.map V.str) us) {m:Nat} (h:m<us.length) (z:Str):isS z us[m]=decide (ss[m]?=some z):=by
 have hl:m<ss.length:=by have:=r.length; rw [List.length_map] at this; omega
 obtain ⟨u,e,q⟩:=r.get (i:=m) (x:=.str ss[m]) (by rw [List.getElem?_map,List.getElem?_eq_getElem hl]; rfl)
 rw [List.getElem?_eq_getElem h] at e
 cases e
 obtain ⟨t,e2⟩:=q
 rw [e2,List.getElem?_eq_getElem hl]
 show decide (ss[m]=z)=_
 simp
def rIndex (Sq:Hp->Addr->List V->Prop):V->List V->Hp->VK->Prop:=fun x xs H Q=>∃ (a:Addr) (ss:List Str) (z:Str) (j:Nat),x=.ref a/\xs=[.str z]/\Sq H a (ss.map V.str)/\ss[j]?=some z/\(∀ m,m<j->ss[m]?≠some z)/\Q (.int j) H
theorem mt_indexT:MtM X "tuple.index" (rIndex (Yg X.K)):=by
 intro pins s σ H x vs v us Q I rx rv h
 obtain ⟨a,ss,z,j,rfl,rfl,hq,hj,hno,q⟩:=h
 cases rx
 obtain ⟨u,rfl,ru⟩:=rv.one
 obtain ⟨tz,rfl⟩:=ru
 obtain ⟨its,r,⟨⟨cl,dd,dt,sl⟩,e,hc,n,hd⟩,hz⟩:=I.tuple hq
 simp only at hc hd
 subst hc hd
 have hl:=r.length
 rw [List.length_map] at hl
 have hjl:=(List.getElem?_eq_some_iff.mp hj).1
 refine call_meets PySem.F.slot_tuple_index ⟨_,e,rfl⟩ PySem.F.entry_tuple_index (PySem.F.args_tuple_index_2 _ _) (IdxT.tuple_index a its.toArray n dd sl (.str z tz) (isS z) j (by simp; omega) ?_ fun m hm h2=>?_) ⟨e,fun y hy=>?_,⟨.int j,H,I.tok _,⟨_,rfl⟩,q⟩⟩
 ·have:=isS_at r (m:=j) (by omega) z
  simp only [List.getElem_toArray]
  rw [this,decide_eq_true hj]
 ·have:=isS_at r (m:=m) (by simpa using hm) z
  simp only [List.getElem_toArray]
  rw [this,decide_eq_false (hno m h2)]
 ·obtain ⟨x,t,_,rfl⟩:=eqStrs r y (by simpa using hy)
  exact fun prog w E Q hq=>wpAny_eqBool_str hq
theorem mt_indexL:MtM X "list.index" (rIndex (Yc X.K)):=by
 intro pins s σ H x vs v us Q I rx rv h
 obtain ⟨a,ss,z,j,rfl,rfl,hq,hj,hno,q⟩:=h
 cases rx
 obtain ⟨u,rfl,ru⟩:=rv.one
 obtain ⟨tz,rfl⟩:=ru
 obtain ⟨its,r,pl,hz⟩:=I.list hq
 obtain ⟨⟨cl,dd,dt,sl⟩,e,hc,n,hd⟩:=pl.isList
 simp only at hc hd
 subst hc hd
 have hl:=r.length
 rw [List.length_map] at hl
 have hjl:=(List.getElem?_eq_some_iff.mp hj).1
 rw [List.length_map] at hz
 have hsm:(j:Int)<2 ^ 63 - 1:=by have:=sizeLine_eq; omega
 refine call_meets PySem.F.slot_list_index ⟨_,e,rfl⟩ PySem.F.entry_list_index (PySem.F.args_list_index_2 _ _) (SeqAt.list_indexAt a its.toArray n dd sl (.str z tz) (isS z) j (by simp; omega) hsm ?_ fun m hm h2=>?_) ⟨e,fun y hy=>?_,⟨.int j,H,I.tok _,⟨_,rfl⟩,q⟩⟩
 ·have:=isS_at r (m:=j) (by omega) z
  simp only [List.getElem_toArray]
  rw [this,decide_eq_true hj]
 ·have:=isS_at r (m:=m) (by simpa using hm) z
  simp only [List.getElem_toArray]
  rw [this,decide_eq_false (hno m h2)]
 ·obtain ⟨x,t,_,rfl⟩:=eqStrs r y (by simpa using hy)
  exact fun prog w E Q hq=>wpAny_eqBool_str hq
structure TopD (K:W.Frag) (w:World) (a:Addr):Prop where
 at':∃ es n,K.lookup a=some ⟨.type "dict",none,.dict es n, #[]⟩/\W.KeysLit w.params es.toList
def rTopD (K:W.Frag) (w:World):R2:=fun x y H Q=>∃ (a:Addr) (z:Str) (v:V) (u:Value),x=.ref a/\y=.str z/\TopD K w a/\W.nsIn K a z=some (some u)/\Yq v u/\Q v H
theorem ix_topD:IxR X (rTopD X.K X.w):=by
 intro value slice pins s σ H x y v u Q I rx ry h hs
 obtain ⟨a,z,v',u',rfl,rfl,⟨es,n,hl,hk⟩,e,r,q⟩:=h
 cases rx
 obtain ⟨t,rfl⟩:=ry
 have hm:=W.mapOf_K (prog:=X.prog) I.kIn hl hk
 exact tail_any hm.typeIs slot_dict_getitem.lookup (wpAny_getItem_of (strKind_is X.prog X.w z t) hm (W.find_K hl e) ⟨v',H,I.tok _,r,q⟩) hs
end
def MFn (P:Program) (w:World) (K:W.Frag) (mg:Str->Option Value) (base:Heap) (k:Nat) (C:Addr) (m:Str) (ps:List Str) (sp:Sp):Prop :=
 ∃ f fd,Cls K C/\Meth K C m f/\Yj P w K mg base CX0 k f fd ps sp/\Vc K fd ps []
def CFn (P:Program) (w:World) (K:W.Frag) (mg:Str->Option Value) (base:Heap) (k:Nat) (C:Addr) (x:Str) (ps:List Str) (sp:Sp):Prop :=
 ∃ f fd,Mk K C f/\Yj P w K mg base CX0 k f fd ps sp/\Vc K fd ps []/\mg x=some (.ref C)
section
variable {X:Cx} {k:Nat} {C:Addr} {m x:Str} {ps:List Str} {sp:Sp} {o e:Expr} {es:List Expr} {ta:TE} {t:TA} {p pos apos:Pos}
theorem pe_methF {pl:Sem Bool} (G:MFn X.prog X.w X.K X.mg X.base k C m ps sp) (hr:Vm k X.A) (ho:PE X o ta) (ha:PA X (e::es) t)
  (hst:starEach (e::es) X.env=(false,eval e X.env)::starEach es X.env:=by rfl) (hpl:(backTo pos (starEach es X.env)).any (·.1)=false:=by rfl)
  (ht:eval (.Call (.Attribute o m apos) (e::es) [] pos) X.env=(do
   let ov <-eval o X.env
   standAt apos.atName
   let (f,first) <-holding [ov] (getMethod ov m pl)
   callWith pos f first (backTo pos (starEach (e::es) X.env)) (backToKw pos (keywordEach [] X.env))):=by rfl) :
  PE X (.Call (.Attribute o m apos) (e::es) [] pos) (tMeth C m sp [] E0 ta t):=by
 obtain ⟨f,fd,c,hm,F,b⟩:=G
 exact pe_meth ho c hm F hr b .nil pass0 ha hst hpl ht
theorem pe_makeF (G:CFn X.prog X.w X.K X.mg X.base k C x ps sp) (hr:Vm (k+1) X.A) (hg:Gl X x) (ha:PA X (e::es) t) (hdb:(x == ("__debug__" : Str))=false:=by decide)
  (he:starEach (e::es) X.env=(false,eval e X.env)::starEach es X.env:=by rfl) (hpl:(backTo pos (starEach es X.env)).any (·.1)=false:=by rfl) :
  PE X (.Call (.Name x p) (e::es) [] pos) (tMake C sp [] E0 t):=by
 obtain ⟨f,fd,M,F,b,mm⟩:=G
 exact pe_make M F hr hg mm b .nil pass0 ha hdb he hpl
end
end L2
namespace EnuT
open PySem
section
variable {prog:Program} {w:World} {A:Around} {E:Value->Shared->Prop} {s:Shared}
end
section
variable {prog:Program} {w:World} {A:Around} {E:Value->Shared->Prop} {s:Shared}
end
end EnuT
namespace L2
open PySem PySem.Spec PyProof.Rows
section
variable {X:Cx} {es:List Expr} {k:Nat} {p2 pos pos2:Pos} {a:Expr} {t:TA}
end
section
variable {X:Cx}
end
section
variable {X:Cx} {p p2 pos pos2:Pos} {a b:Expr} {t:TA}
end
end L2
namespace EX
open PySem
structure Noted (l:List Env) (e T:Addr) (oe:Obj) (h h':Heap):Prop where
 keep:∀ b o,b≠e->b ∉ l.filterMap (·.frame)->h.get? b=some o->h'.get? b=some o
 slot:∀ b o,b≠e->h.get? b=some o->∃ sl,h'.get? b=some { o with slots:=sl }
 exc:h'.get? e=some (oe.mapFields (·.setIfInBounds 1 (.ref T)))
 new:h.objs.size<=T
 tb:∃ oT ts,h'.get? T=some oT/\oT.data=.fields ts/\3<ts.size
section
variable {M:Model} {A:Around} {E:Value->Shared->Prop} {s:Shared} {env:Env} {outer:List Env} {base:Heap} {L e T:Addr} {oe:Obj} {vs:Array Value} {Q:Unit->Shared->Prop}
theorem frames_ne (hl:s.heap.FunFrames base (env::outer)) (he:s.heap.get? e=some oe) (hd:oe.data=.fields vs):e ∉ (env::outer).filterMap (·.frame):=fun hm=>by
 obtain ⟨_,o,ho,hn⟩:=hl.mem hm
 rw [he] at ho
 cases ho
 exact hn vs hd
theorem note_new (hfr:A.frames=some (env::outer)) (hl:s.heap.FunFrames base (env::outer)) (hf:env.frame=some L)
  (he:s.heap.get? e=some oe) (hd:oe.data=.fields vs) (h1:vs[1]?=some .none)
  (h:∀ h' T,Noted (env::outer) e T oe s.heap h'->Q () { s with heap:=h' }):wpAny M A (noteFrame (.ref e) env) Q E s:=by
 have hz:1<vs.size:=(Array.getElem?_eq_some_iff.mp h1).1
 have hne:=frames_ne hl he hd
 unfold noteFrame
 simp only [hf]
 refine wpAny_bind (wpAny_field he hd h1 ?_)
 rw [if_neg (by decide)]
 refine wpAny_bind (wpAny_frameOf_fun hfr hl hf fun h₁ sl=>wpAny_bind (wpAny_entryPlaceOf fun pl hpl=>?_))
 unfold EntryCells.newEntry newFields
 refine wpAny_bind (wpAny_newObj_type ?_ (hpl.sizeOk5 _ _ _ _ _))
 have e1:h₁.get? e=some oe:=(sl.2.1 e hne).trans he
 have z1:h₁.objs.size=s.heap.objs.size:=sl.1
 refine wpAny_setField (Heap.get?_push_of_some _ e1) hd hz (h _ h₁.objs.size ⟨fun b o hb hn q=>?_,fun b o hb q=>?_, ?_,Nat.le_of_eq z1.symm, ?_⟩)
 ·exact (Heap.get?_update_other _ _ (Ne.symm hb)).trans (Heap.get?_push_of_some _ ((sl.2.1 b hn).trans q))
 ·obtain ⟨x,q'⟩:=sl.2.2 b o q
  exact ⟨x,(Heap.get?_update_other _ _ (Ne.symm hb)).trans (Heap.get?_push_of_some _ q')⟩
 ·exact Heap.get?_update_self _ (Heap.get?_push_of_some _ e1) (Obj.isFreed_of_fields (Obj.data_mapFields hd _))
 ·refine ⟨_,_,(Heap.get?_update_other _ _ (Nat.ne_of_lt (Heap.lt_size e1))).trans (Heap.get?_push_size h₁ rfl),rfl, ?_⟩
  simp only [List.size_toArray,List.length_append,List.length_cons,List.length_nil]
  omega
theorem flight_off {oT:Obj} {ts:Array Value} (he:s.heap.get? e=some oe) (hd:oe.data=.fields vs) (h1:vs[1]?=some (.ref T)) (hT:s.heap.get? T=some oT) (hdT:oT.data=.fields ts) (hz:3<ts.size)
  (h:∀ h',(∀ b,b≠T->h'.get? b=s.heap.get? b)->(∃ oT ts,h'.get? T=some oT/\oT.data=.fields ts/\3<ts.size)->Q () { s with heap:=h' }):wpAny M A (setFlight (.ref e) none) Q E s:=by
 refine wpAny_setFlight_none he hd h1 hT hdT hz (h _ (fun b hb=>Heap.get?_update_other _ _ (Ne.symm hb)) ⟨_,_,Heap.get?_update_self _ hT (Obj.isFreed_of_fields (Obj.data_mapFields hdT _)),Obj.data_mapFields hdT _, ?_⟩)
 rw [Array.size_setIfInBounds]; exact hz
end
abbrev Lk {α:Type} (M:Model) (h:Heap) (t:Sem α) (r:α):Prop :=
 ∀ (A:Around) (Q:α->Shared->Prop) (E:Value->Shared->Prop) (s:Shared),(∀ b o,h.get? b=some o->s.heap.get? b=some o)->Q r s->wpAny M A t Q E s
section
variable {M:Model} {A:Around} {E:Value->Shared->Prop} {s:Shared} {env:Env}
theorem not_cls {h:Heap} {e:Addr} {oe:Obj} {vs:Array Value} (he:h.get? e=some oe) (hd:oe.data=.fields vs):Lk M h (isType (.ref e)) false:=by
 intro A Q E s k q
 show wpAny M A (do return match (<-loadHead e).data with | .cls _=>true | _=>false) Q E s
 refine wpAny_bind (wpAny_loadPart (k _ _ he) ?_)
 rw [hd]; exact wpAny_pure q
theorem type_at {h:Heap} {e:Addr} {oe:Obj} {c:Value} (he:h.get? e=some oe) (hc:oe.cls=c):Lk M h (typeOf (.ref e)) c:=by
 intro A Q E s k q
 show wpAny M A (do return (<-loadPart e (some headPart)).cls) Q E s
 refine wpAny_bind (wpAny_loadPart (k _ _ he) ?_)
 rw [hc]; exact wpAny_pure q
theorem raise_at {x:Sem Value} {Q:Flow->Shared->Prop} (hh:A.handled=none)
  (h:wpAny M A x (fun v s₁=>∃ e C oe vs,v=.ref e/\s₁.heap.get? e=some oe/\oe.cls=.ref C/\oe.data=.fields vs/\vs[1]?=some .none /\
   Lk M s₁.heap (isSubtype (.ref C) (.type "BaseException")) true/\Lk M s₁.heap (typeOf (.ref C)) (.type "type")/\E (.ref e) s₁) E s) :
  wpAny M A (raiseStmt env (some x) none) Q E s:=by
 unfold raiseStmt
 refine wpAny_bind (wpAny_mono h (fun v s₁ h₁=>?_) fun _ _ y=>y)
 obtain ⟨e,C,oe,vs,rfl,he,hc,hd,h1,hs,ht,hE⟩:=h₁
 have n1:=not_cls (M:=M) he hd
 have n2:=type_at (M:=M) he hc
 refine wpAny_bind (wpAny_pure (wpAny_bind (wpAny_holding ?_)))
 unfold excFromValue isExcClass isInstance
 refine wpAny_bind (wpAny_bind (n1 _ _ _ _ (fun _ _ z=>z) ?_))
 rw [if_neg Bool.false_ne_true]
 refine wpAny_pure ?_
 rw [if_neg Bool.false_ne_true]
 refine wpAny_bind (wpAny_bind (n2 _ _ _ _ (fun _ _ z=>z) (hs _ _ _ _ (fun _ _ z=>z) ?_)))
 rw [if_pos rfl]
 refine wpAny_pure ?_
 refine wpAny_bind (n1 _ _ _ _ (fun _ _ z=>z) ?_)
 rw [if_neg Bool.false_ne_true]
 unfold raisedInstance
 refine wpAny_bind (wpAny_bind (n2 _ _ _ _ (fun _ _ z=>z) (wpAny_bind (ht _ _ _ _ (fun _ _ z=>z) ?_))))
 rw [if_pos (by decide)]
 refine wpAny_pure (wpAny_bind ?_)
 unfold setFlight
 refine wpAny_bind (wpAny_field he hd h1 ?_)
 rw [if_neg (by decide)]
 exact wpAny_pure (wpAny_raiseNew_none hh hE)
end
section
variable {M:Model} {A:Around} {E:Value->Shared->Prop} {s:Shared} {env:Env}
theorem is_cls {h:Heap} {c:Addr} {oc:Obj} {cd:ClassData} (he:h.get? c=some oc) (hd:oc.data=.cls cd):Lk M h (isType (.ref c)) true:=by
 intro A Q E s k q
 show wpAny M A (do return match (<-loadHead c).data with | .cls _=>true | _=>false) Q E s
 refine wpAny_bind (wpAny_loadPart (k _ _ he) ?_)
 rw [hd]; exact wpAny_pure q
theorem matches_at {e C D:Addr} {b:Bool} {Q:Bool->Shared->Prop} (h1:Lk M s.heap (typeOf (.ref D)) (.type "type")) (h2:Lk M s.heap (isType (.ref D)) true) (h3:Lk M s.heap (isSubtype (.ref D) (.type "BaseException")) true)
  (h4:Lk M s.heap (typeOf (.ref e)) (.ref C)) (h5:Lk M s.heap (isSubtype (.ref C) (.ref D)) b) (h:Q b s):wpAny M A (excMatches (.ref e) (.ref D)) Q E s:=by
 have nt:isSubtype (.type "type") (.type "tuple")=pure false:=by rw [isSubtype_type]; kernel_rfl
 unfold excMatches isInstance
 refine wpAny_bind (wpAny_bind (h1 _ _ _ _ (fun _ _ z=>z) ?_))
 rw [nt]
 refine wpAny_pure ?_
 rw [if_neg Bool.false_ne_true]
 refine wpAny_bind (wpAny_pure ?_)
 simp only [List.forIn_cons,List.forIn_nil]
 unfold isExcClass
 refine wpAny_bind (wpAny_bind (wpAny_bind (wpAny_bind (h2 _ _ _ _ (fun _ _ z=>z) ?_))))
 rw [if_pos rfl]
 refine h3 _ _ _ _ (fun _ _ z=>z) ?_
 simp only [Bool.not_true,Bool.false_eq_true,if_false]
 refine wpAny_pure (wpAny_pure (wpAny_bind (h4 _ _ _ _ (fun _ _ z=>z) ?_)))
 refine wpAny_bind (wpAny_bind (wpAny_bind (h5 _ _ _ _ (fun _ _ z=>z) ?_)))
 cases b with
 | true =>
  simp only [if_true]
  exact wpAny_pure (wpAny_pure (wpAny_pure h))
 | false =>
  simp only [Bool.false_eq_true,if_false]
  exact wpAny_pure (wpAny_pure (wpAny_pure h))
end
section
variable {prog:Program} {w:World} {A:Around} {E:Value->Shared->Prop} {s:Shared} {env:Env}
theorem handle_at {e C D:Addr} {t:Expr} {n:Str} {b₀:Stmt} {suite:List Stmt} {pos:Pos} {rest:List ExceptHandler} {Q:Flow->Shared->Prop}
  (h:wpAny (model prog w) (A.mark (some (.ref e))) (eval t env) (fun c s₁=>c=.ref D/\Lk (model prog w) s₁.heap (typeOf (.ref D)) (.type "type")/\Lk (model prog w) s₁.heap (isType (.ref D)) true /\
   Lk (model prog w) s₁.heap (isSubtype (.ref D) (.type "BaseException")) true/\Lk (model prog w) s₁.heap (typeOf (.ref e)) (.ref C)/\Lk (model prog w) s₁.heap (isSubtype (.ref C) (.ref D)) true /\
   wpAny (model prog w) (A.mark (some (.ref e))) (setFlight (.ref e) none) (fun _ s₂ =>
     wpAny (model prog w) (A.mark (some (.ref e))) (storeName env n (.ref e)) (fun _ s₃ =>
      wpAny (model prog w) (A.mark (some (.ref e))) (execs (b₀::suite) env)
       (fun f s₄=>wpAny (model prog w) A (do bindName env n .none; unbindBehindTheSuite env n pos) (fun _ s₅=>Q f s₅) E s₄)
       (fun _ _=>False) s₃) (fun _ _=>False) s₂) (fun _ _=>False) s₁) (fun _ _=>False) s) :
  wpAny (model prog w) A (handleBy (.ref e) env (.ExceptHandler (some t) (some n) (b₀::suite) pos::rest)) Q E s:=by
 refine wpAny_handleBy_cons (codeAny_handlers_test (wpAny_mono h (fun c s₁ h₁=>?_) fun _ _ x=>x.elim)) (by intro q; cases q)
 obtain ⟨rfl,x1,x2,x3,x4,x5,hk⟩:=h₁
 refine matches_at x1 x2 x3 x4 x5 ?_
 refine codeAny_handlers_suite_as (wpAny_mono hk (fun _ s₂ h₂=>wpAny_mono h₂ (fun _ s₃ h₃=>wpAny_mono h₃ (fun f s₄ h₄=>h₄) fun _ _ z=>z.elim) fun _ _ z=>z.elim) fun _ _ z=>z.elim)
end
section
variable {prog:Program} {w:World} {A:Around} {E:Value->Shared->Prop} {h:Heap} {g:Array GenState} {d:Drawn} {t:Nat} {os:OsState}
variable {nm q:Str} {C N:Addr} {bs bm bmB:List Value} {hdct:Bool} {sn:List Str} {sub:List Value} {ab:Bool} {col:Option Bool} {dd:Option Addr} {k0 k1 k2 k3 k5:Option Value} {B newId initId:String}
abbrev tupO (rest:List Value):Obj:={ cls:=.type "tuple",data:=.seq rest.toArray }
abbrev excO (C t:Addr):Obj:={ cls:=.ref C,data:=.fields #[.ref t,.none,.none,.none,.bool false,.none] }
abbrev made (h:Heap) (C:Addr) (rest:List Value):Heap:=(h.push (tupO rest)).push (excO C h.objs.size)
theorem made_keep {rest:List Value}:∀ b o,h.get? b=some o->(made h C rest).get? b=some o:=fun _ _ e=>Heap.get?_push_of_some _ (Heap.get?_push_of_some _ e)
theorem made_at {rest:List Value}:(made h C rest).get? (h.objs.size+1)=some (excO C h.objs.size):=by
 have:=Heap.get?_push_size (h.push (tupO rest)) (o:=excO C h.objs.size) rfl
 rwa [Heap.size_push] at this
theorem exc_new (F:ExcBaseFacts B newId initId bmB) (T:OwnTail h bmB bm) {rest:List Value} {fI:Addr} {Q:Fin->Shared->Prop}
  (hC:h.get? C=some (excClassObj nm q C N bs bm hdct sn sub ab col dd k0 k1 k2 k3 k5 newId)) (hI:Lk (model prog w) h (typeLookup (.ref C) "__init__") (some (.ref fI)))
  (hf:Lk (model prog w) h (typeOf (.ref fI)) (.type "function")) (hrest:rest.length<=sizeLine)
  (hq:wpAny (model prog w) A (call (.ref fI) (.ref (h.objs.size+1)::rest)) (fun r s'=>r=.none/\Q (.done (.ret (.ref (h.objs.size+1)))) s') E ⟨made h C rest,g,d,t,os⟩) :
  wpAny (model prog w) A (Builtin.«type.__call__» ⟨.ref C::rest,[]⟩) Q E ⟨h,g,d,t,os⟩:=by
 have c1:=made_keep (C:=C) (rest:=rest) _ _ hC
 have cC:(Value.ref C::bm).contains (.ref C)=true:=by simp
 repeat (first | with_reducible refine wpAny_madeBy_exc hC ?_ | with_reducible refine wpAny_loadPart_at hC ?_ | wp_step)
 refine codeAny_call_builtin_code (Code.quiet_builtin _ F.quiet) (wpAny_check_new_subT F T hC (codeAny_exc_new_subT F T hC ?_ hrest))
 show wpAny _ _ _ _ _ _
 unfold isInstance
 have e1:=made_at (h:=h) (C:=C) (rest:=rest)
 repeat (first | (with_reducible refine wpAny_isSubtype_exc c1 ?_; rw [cC]) | with_reducible refine wpAny_loadPart_at e1 ?_ | wp_step)
 show wpAny _ _ (typeLookup (.ref C) _) _ _ _
 refine hI _ _ _ _ made_keep (wpAny_holding (wpAny_bind ?_))
 unfold bindSpecial
 refine wpAny_bind (hf _ _ _ _ made_keep ?_)
 rw [if_pos (by decide)]
 refine wpAny_pure (wpAny_bind (wpAny_mono hq (fun r s' ⟨hr,hQ⟩=>?_) fun _ _ y=>y))
 subst hr
 wp_walk
 exact hQ
end
section
variable {prog:Program} {w:World} {A:Around} {E:Value->Shared->Prop} {h:Heap} {g:Array GenState} {d:Drawn} {t:Nat} {os:OsState}
variable {nm q:Str} {C N:Addr} {bs bm bmB:List Value} {hdct:Bool} {sn:List Str} {sub:List Value} {ab:Bool} {col:Option Bool} {dd:Option Addr} {k0 k1 k2 k3 k5:Option Value} {B newId initId:String}
theorem exc_call (F:ExcBaseFacts B newId initId bmB) (T:OwnTail h bmB bm) {rest:List Value} {fI:Addr} {Q:Value->Shared->Prop}
  (hC:h.get? C=some (excClassObj nm q C N bs bm hdct sn sub ab col dd k0 k1 k2 k3 k5 newId)) (hI:Lk (model prog w) h (typeLookup (.ref C) "__init__") (some (.ref fI)))
  (hf:Lk (model prog w) h (typeOf (.ref fI)) (.type "function")) (hrest:rest.length<=sizeLine)
  (hq:wpAny (model prog w) (A.under (.builtin "type.__call__" ⟨.ref C::rest,[]⟩)) (call (.ref fI) (.ref (h.objs.size+1)::rest)) (fun r s'=>r=.none/\Q (.ref (h.objs.size+1)) s') E ⟨made h C rest,g,d,t,os⟩) :
  wpAny (model prog w) A (call (.ref C) rest) Q E ⟨h,g,d,t,os⟩:=by
 have f2:=tc_bind (.ref C)
 have f1:=tc_lookup
 have ty:(⟨h,g,d,t,os⟩:Shared).TypeIs (.ref C) "type" := ⟨_,hC,rfl⟩
 refine wpAny_call (codeAny_of_tree ?_)
 show wpAny _ _ (callAny (.ref C) _) _ _ _
 repeat (any_goals (first | with_reducible refine wpAny_loadPart_at hC ?_ | assumption | wp_step))
 refine ⟨rfl,codeAny_call_builtin_at (Code.quiet_builtin _ (by decide +kernel)) entry_typeCall (wpAny_check_type_call_sub hC (exc_new F T hC hI hf hrest hq))⟩
end
end EX
namespace EX
open PySem Builtin Builtin.ObjectAttr
structure SetOk (M:Model) (h:Heap) (x C:Addr) (name:Str):Prop where
 sa:Lk M h (typeLookup (.ref C) "__setattr__") (some (.builtin "object.__setattr__"))
 no:Lk M h (typeLookup (.ref C) name) none
 rf:Lk M h (refuseIfOverridden (.ref x) "__setattr__") ()
 ob:Lk M h (isSubtype (.ref C) (.type "object")) true
 cd:∃ cd,Lk M h (classData C) cd/\cd.hasDict=true
structure SaFacts:Prop where
 slot:Slot "object" "__setattr__" "object.__setattr__"
 entry:entryFor table "object.__setattr__" = some Builtin.«object.__setattr__»
 kind:builtinKind "object.__setattr__" = some .slot
 split:splitId "object.__setattr__" = some ("object","__setattr__")
 args:∀ a b c:Value,argsOk "object.__setattr__" ⟨[a,b,c],[]⟩
section
variable {prog:Program} {w:World} {A:Around} {E:Value->Shared->Prop} {s:Shared} {x C:Addr} {o:Obj} {name:Str} {v:Value}
theorem slot_check {M:Model} {i owner n:String} {self:Value} {rest:List Value} {Q:Unit->Shared->Prop} (hk:builtinKind i=some .slot) (hs:splitId i=some (owner,n))
  (hi:Lk M s.heap (isInstance self (.type owner)) true) (ha:argsOk i ⟨self::rest,[]⟩) (z:Q () s):wpAny M A (checkBuiltinCall i ⟨self::rest,[]⟩) Q E s:=by
 simp only [checkBuiltinCall,hk,hs]
 refine wpAny_bind (hi _ _ _ _ (fun _ _ y=>y) ?_)
 rw [if_neg (by decide)]
 cases g:Manifest.signature? i with
 | none=>exact wpAny_pure z
 | some sig =>
  have e:Bind.checkArgs i sig ⟨self::rest,[]⟩=pure ():=by unfold argsOk at ha; rw [g] at ha; exact ha
  exact (show wpAny M A (Bind.checkArgs i sig ⟨self::rest,[]⟩) Q E s by rw [e]; exact wpAny_pure z)
theorem inst_lk {M:Model} {h:Heap} {b:Value} {r:Bool} (hx:h.get? x=some o) (hc:o.cls=.ref C) (hb:Lk M h (isSubtype (.ref C) b) r):Lk M h (isInstance (.ref x) b) r:=by
 intro A Q E s k q
 unfold isInstance
 exact wpAny_bind (type_at hx hc _ _ _ _ k (hb _ _ _ _ k q))
theorem osa_as (self v:Value) (name:Str) (tk:Tok):Builtin.«object.__setattr__» ⟨[self,.str name tk,v],[]⟩=(refuseIfOverridden self "__setattr__" >>= fun _=>typeOf self >>= fun c=>typeLookup c name >>= fun a =>
  storeTaker? a >>= fun y=>match y with | some y=>setByDescriptor y self v | none=>storeInOwnDict self c (.str name tk) name v a.isSome):=by kernel_rfl
theorem set_upto (SF:SaFacts) {Q:Unit->Shared->Prop} (S:SetOk (model prog w) s.heap x C name) (hx:s.heap.get? x=some o) (hc:o.cls=.ref C)
  (h:∀ (A:Around) (R:Fin->Shared->Prop) (E':Value->Shared->Prop) (b:Bool) (tk:Tok),(∀ s',Q () s'->R (.done (.ret .none)) s') ->
   wpAny (model prog w) A (storeInOwnDict (.ref x) (.ref C) (.str name tk) name v b) R E' { s with toks:=s.toks+1 }) :
  wpAny (model prog w) A (setAttr (.ref x) name v) Q E s:=by
 have ty:=type_at (M:=model prog w) hx hc
 have same:∀ b o,s.heap.get? b=some o->({ s with toks:=s.toks+1 }:Shared).heap.get? b=some o:=fun _ _ e=>e
 unfold setAttr callSpecial? specialOf
 refine wpAny_bind (wpAny_mkText (wpAny_bind (wpAny_bind (wpAny_bind (ty _ _ _ _ same (S.sa _ _ _ _ same (wpAny_holding ?_)))))))
 rw [SF.slot.bind]
 refine wpAny_bind (wpAny_pure (wpAny_bind (wpAny_call ?_)))
 refine codeAny_call_builtin SF.slot.plain SF.entry ?_
 have ag:=SF.args (.ref x) (.str name s.toks) v
 have ii:=inst_lk (M:=model prog w) hx hc S.ob
 refine @slot_check _ _ { s with toks:=s.toks+1 } (model prog w) "object.__setattr__" "object" "__setattr__" (.ref x) [.str name s.toks,v] _ SF.kind SF.split ii ag ?_
 rw [show ([Value.ref x]++[Value.str name s.toks,v])=[.ref x,.str name s.toks,v] from rfl,osa_as]
 refine wpAny_bind (S.rf _ _ _ _ same (wpAny_bind (ty _ _ _ _ same (wpAny_bind (S.no _ _ _ _ same (wpAny_bind (wpAny_pure ?_)))))))
 exact h _ _ _ _ _ fun s' z=>wpAny_pure (wpAny_pure z)
abbrev newD:Obj:={ cls:=.type "dict",data:=.dict #[] }
theorem set_first (SF:SaFacts) {Q:Unit->Shared->Prop} {vs:Array Value} (S:SetOk (model prog w) s.heap x C name) (hx:s.heap.get? x=some o) (hc:o.cls=.ref C) (hd:o.dict=none) (hv:o.data=.fields vs)
  (h:∀ h' tk,(∀ b u,b≠x->s.heap.get? b=some u->h'.get? b=some u)->h'.get? x=some { o with dict:=some s.heap.objs.size }->h'.Ns1 s.heap.objs.size (fun y=>if y=name then some v else none) ->
   Q () { s with heap:=h',toks:=tk }):wpAny (model prog w) A (setAttr (.ref x) name v) Q E s:=by
 refine set_upto SF S hx hc fun A R E' b tk hR=>?_
 obtain ⟨cd,hcd,hh⟩:=S.cd
 have same:∀ b o,s.heap.get? b=some o->({ s with toks:=s.toks+1 }:Shared).heap.get? b=some o:=fun _ _ e=>e
 obtain ⟨oc,od,dt,sl⟩:=o
 obtain rfl:oc=.ref C:=hc
 obtain rfl:od=none:=hd
 obtain rfl:dt=.fields vs:=hv
 have nx:s.heap.objs.size≠x:=Nat.ne_of_gt (Heap.lt_size hx)
 unfold storeInOwnDict ownDictForStores instanceDict
 refine wpAny_bind (wpAny_pure (wpAny_bind (wpAny_bind (wpAny_loadPart (same _ _ hx) (wpAny_bind (hcd _ _ _ _ same ?_))))))
 rw [hh]
 refine wpAny_bind (wpAny_alloc (wpAny_bind (wpAny_update (Heap.get?_push_of_some _ hx) (wpAny_pure ?_))))
 have e1:=Heap.get?_push_of_some newD hx
 have e2:((s.heap.push newD).update x fun o=>{ o with dict:=some s.heap.objs.size }).get? x=some ⟨.ref C,some s.heap.objs.size,.fields vs,sl⟩:=Heap.get?_update_self _ e1 rfl
 have e3:((s.heap.push newD).update x fun o=>{ o with dict:=some s.heap.objs.size }).get? s.heap.objs.size=some newD:=(Heap.get?_update_other _ _ (Ne.symm nx)).trans (Heap.get?_push_size _ rfl)
 have ns:((s.heap.push newD).update x fun o=>{ o with dict:=some s.heap.objs.size }).Ns s.heap.objs.size (fun _=>none):=⟨newD, #[],_,e3,rfl,(fun e he=>absurd he (by simp)),fun _=>rfl⟩
 show wpAny _ _ (storeInDict s.heap.objs.size (.str name tk) name v) _ _ _
 unfold storeInDict newKeyGuard
 refine wpAny_bind (wpAny_pure (wpAny_bind (wpAny_nsSet1 (Heap.Ns1.of_empty ns) fun h' hn' hs=>?_)))
 obtain ⟨oD,esD,epD,hoD,hdD,hcD⟩:=hn'.count (Within.cons name v Within.nil)
 refine wpAny_bind (wpAny_lookBehind hoD ?_ (wpAny_pure (hR _ (h h' _ (fun b u hb q=>?_) ((hs.2 x (Ne.symm nx)).trans e2) hn'))))
 ·rw [hdD]; exact pastItsLine_dict (Nat.le_trans hcD (by rw [sizeLine_eq,List.length_cons,List.length_nil]; omega))
 ·exact (hs.2 b (Nat.ne_of_lt (Heap.lt_size q))).trans ((Heap.get?_update_other _ _ (Ne.symm hb)).trans (Heap.get?_push_of_some _ q))
theorem set_next (SF:SaFacts) {Q:Unit->Shared->Prop} {dx:Addr} {mA:Str->Option Value} {ns:List Str} (S:SetOk (model prog w) s.heap x C name) (hx:s.heap.get? x=some o) (hc:o.cls=.ref C) (hd:o.dict=some dx)
  (hn:s.heap.Ns1 dx mA) (hw:Within mA ns) (hz:ns.length<1000)
  (h:∀ h' tk,Heap.SameBut dx s.heap h'->h'.Ns1 dx (fun y=>if y=name then some v else mA y)->Q () { s with heap:=h',toks:=tk }):wpAny (model prog w) A (setAttr (.ref x) name v) Q E s:=by
 refine set_upto SF S hx hc fun A R E' b tk hR=>?_
 obtain ⟨cd,hcd,hh⟩:=S.cd
 have same:∀ b o,s.heap.get? b=some o->({ s with toks:=s.toks+1 }:Shared).heap.get? b=some o:=fun _ _ e=>e
 obtain ⟨oc,od,dt,sl⟩:=o
 obtain rfl:oc=.ref C:=hc
 obtain rfl:od=some dx:=hd
 unfold storeInOwnDict ownDictForStores instanceDict
 refine wpAny_bind (wpAny_pure (wpAny_bind (wpAny_bind (wpAny_loadPart (same _ _ hx) (wpAny_bind (hcd _ _ _ _ same ?_))))))
 rw [hh]
 refine wpAny_pure (a:=some dx) ?_
 show wpAny _ _ (storeInDict dx (.str name tk) name v) _ _ _
 unfold storeInDict newKeyGuard
 refine wpAny_bind (wpAny_pure (wpAny_bind (wpAny_nsSet1 (s:={ s with toks:=s.toks+1 }) hn fun h' hn' hs=>?_)))
 obtain ⟨oD,esD,epD,hoD,hdD,hcD⟩:=hn'.count (Within.cons name v hw)
 refine wpAny_bind (wpAny_lookBehind hoD ?_ (wpAny_pure (hR _ (h h' _ hs hn'))))
 rw [hdD]; exact pastItsLine_dict (Nat.le_trans hcD (by rw [sizeLine_eq,List.length_cons]; omega))
end
structure GetOk (M:Model) (h:Heap) (C:Addr) (name:Str):Prop where
 ga:Lk M h (typeLookup (.ref C) "__getattribute__") (some (.builtin "BaseException.__getattribute__"))
 hk:Lk M h (typeLookup (.ref C) "__getattr__") none
 no:Lk M h (typeLookup (.ref C) name) none
 ob:Lk M h (isSubtype (.ref C) (.type "BaseException")) true
 cd:∃ cd,Lk M h (classData C) cd/\cd.hasDict=true
theorem oga_as (self:Value) (name:Str) (tk:Tok):∃ miss:Value->Sem Fin,Builtin.«object.__getattribute__» ⟨[self,.str name tk],[]⟩=(typeOf self >>= fun tp=>find self tp name >>= fun f =>
  match f with | .value v=>ret v | .bind g a=>bindTo g a self tp | .missing=>miss tp):=⟨_,rfl⟩
section
variable {prog:Program} {w:World} {A:Around} {E:Value->Shared->Prop} {s:Shared} {x C dx:Addr} {o:Obj} {name:Str} {v:Value} {mA:Str->Option Value} {vs:Array Value}
theorem ga_slot:Slot "ValueError" "__getattribute__" "BaseException.__getattribute__" := PySem.F.excAttr_ValueError.ga
theorem get_at {expr:Bool} {Q:Value->Shared->Prop} (G:GetOk (model prog w) s.heap C name) (hx:s.heap.get? x=some o) (hc:o.cls=.ref C) (hd:o.dict=some dx) (hv:o.data=.fields vs) (hn:s.heap.Ns dx mA)
  (hm:mA name=some v) (ho:∀ i,v≠.builtin i) (h:Q v { s with toks:=s.toks+1 }):wpAny (model prog w) A (getAttr (.ref x) name expr) Q E s:=by
 obtain ⟨cd,hcd,hh⟩:=G.cd
 obtain ⟨oc,od,dt,sl⟩:=o
 obtain rfl:oc=.ref C:=hc
 obtain rfl:od=some dx:=hd
 obtain rfl:dt=.fields vs:=hv
 have ty:=type_at (M:=model prog w) hx rfl
 have same:∀ b o,s.heap.get? b=some o->({ s with toks:=s.toks+1 }:Shared).heap.get? b=some o:=fun _ _ e=>e
 have hand:handedOut v=pure v:=by
  cases v <;> first | rfl | exact absurd rfl (ho _)
 unfold getAttr getAttrBy
 refine wpAny_bind (wpAny_mkText (wpAny_holding (wpAny_bind (ty _ _ _ _ same (wpAny_bind (G.ga _ _ _ _ same ?_))))))
 have e0:(onTheHeap (Value.ref C) && Value.builtin "BaseException.__getattribute__" == Value.builtin "object.__getattribute__")=false:=by
  rw [show (Value.builtin "BaseException.__getattribute__" == Value.builtin "object.__getattribute__")=false by decide +kernel,Bool.and_false]
 show wpAny _ _ (if (onTheHeap (Value.ref C) && Value.builtin "BaseException.__getattribute__" == Value.builtin "object.__getattribute__")=true then _ else _) _ _ _
 rw [e0,if_neg Bool.false_ne_true]
 unfold getAttrByItsOwn hookBefore
 refine wpAny_bind (G.hk _ _ _ _ same (wpAny_bind (wpAny_attempt (wpAny_holding ?_))))
 unfold callGetattribute boundAndCalled
 have e1:(expr && onTheHeap (Value.builtin "BaseException.__getattribute__"))=false:=by cases expr <;> rfl
 rw [e1,if_neg Bool.false_ne_true,ga_slot.bind]
 refine wpAny_bind (wpAny_pure (wpAny_call ?_))
 refine codeAny_call_builtin ga_slot.plain PySem.F.entry_bexc_ga ?_
 have ag:=PySem.F.args_bexc_ga (.ref x) (.str name s.toks)
 have ii:=inst_lk (M:=model prog w) hx rfl G.ob
 refine @slot_check _ _ { s with toks:=s.toks+1 } (model prog w) "BaseException.__getattribute__" "BaseException" "__getattribute__" (.ref x) [.str name s.toks] _ (by decide +kernel) (by decide +kernel) ii ag ?_
 obtain ⟨miss,em⟩:=oga_as (.ref x) name s.toks
 rw [show ([Value.ref x]++[Value.str name s.toks])=[.ref x,.str name s.toks] from rfl,em]
 refine wpAny_bind (ty _ _ _ _ same (wpAny_bind ?_))
 unfold find
 refine wpAny_bind (G.no _ _ _ _ same (wpAny_bind (wpAny_pure (wpAny_bind (wpAny_pure ?_)))))
 unfold ownThenClass inOwnDict ownDict instanceDict
 refine wpAny_bind (wpAny_bind (wpAny_bind (wpAny_loadPart (same _ _ hx) (wpAny_bind (wpAny_loadPart (same _ _ hx) (wpAny_bind (hcd _ _ _ _ same ?_)))))))
 rw [hh]
 refine wpAny_pure (a:=some dx) ?_
 refine wpAny_nsGet (s:={ s with toks:=s.toks+1 }) hn ?_
 rw [hm]
 refine wpAny_bind (wpAny_rule (wpAny_pure (wpAny_pure ?_)))
 show wpAny _ _ (handedOut v) _ _ _
 rw [hand]
 exact wpAny_pure h
end
end EX
namespace EX
open PySem
section
variable {prog:Program} {w:World} {A:Around} {E:Value->Shared->Prop} {h:Heap} {g:Array GenState} {d:Drawn} {t:Nat} {os:OsState}
variable {nm q:Str} {C N:Addr} {bs bm bmB:List Value} {hdct:Bool} {sn:List Str} {sub:List Value} {ab:Bool} {col:Option Bool} {dd:Option Addr} {k0 k1 k2 k3 k5:Option Value} {B newId initId:String}
end
end EX
namespace EX
open PySem PySem.W Builtin Builtin.ObjectAttr
section
variable {prog:Program} {w:World} {A:Around} {E:Value->Shared->Prop} {s:Shared} {x C:Addr} {o:Obj} {od:Option Obj} {K:Frag}
theorem find_class (hc:(clsIn K C).isSome=true) (ha:findIn K (.ref C) "__class__" = some (some (.builtin "object.__class__"))) (hg:specialIn K (.builtin "object.__class__") "__get__" = some (some (.builtin "getset_descriptor.__get__")))
  (ht:takesIn K (.builtin "object.__class__")=some true):findObj K C od "__class__" = some (.bind (.builtin "getset_descriptor.__get__") (.builtin "object.__class__")):=by
 obtain ⟨cd,hc⟩:=Option.isSome_iff_exists.mp hc
 unfold findObj
 rw [hc,ha]
 simp only [Option.bind_some,hg,ht]
theorem class_at {Q:Option Value->Shared->Prop} (X:K.In s.heap) (I:InstAt s.heap x o C od) (ga:findIn K (.ref C) "__getattribute__" = some (some (.builtin "BaseException.__getattribute__"))) (hk:findIn K (.ref C) "__getattr__" = some none)
  (be:mroIn K C (.type "BaseException")=some true) (ob:mroIn K C (.type "object")=some true) (hf:findObj K C od "__class__" = some (.bind (.builtin "getset_descriptor.__get__") (.builtin "object.__class__")))
  (h:Q (some (.ref C)) { s with toks:=s.toks+1 }):wpAny (model prog w) A (getAttr? (.ref x) "__class__") Q E s:=by
 have ty:=I.type (M:=model prog w)
 have same:∀ b o,s.heap.get? b=some o->({ s with toks:=s.toks+1 }:Shared).heap.get? b=some o:=fun _ _ e=>e
 unfold getAttr? getAttrBy? getAttrBy
 refine wpAny_bind (wpAny_mkText (wpAny_bind (wpAny_attempt (wpAny_holding (wpAny_bind (ty _ _ _ _ same (wpAny_bind (looks_findIn X ga _ _ _ _ same ?_))))))))
 have e0:(onTheHeap (Value.ref C) && Value.builtin "BaseException.__getattribute__" == Value.builtin "object.__getattribute__")=false:=by
  rw [show (Value.builtin "BaseException.__getattribute__" == Value.builtin "object.__getattribute__")=false by decide +kernel,Bool.and_false]
 show wpAny _ _ (if (onTheHeap (Value.ref C) && Value.builtin "BaseException.__getattribute__" == Value.builtin "object.__getattribute__")=true then _ else _) _ _ _
 rw [e0,if_neg Bool.false_ne_true]
 unfold getAttrByItsOwn hookBefore
 refine wpAny_bind (looks_findIn X hk _ _ _ _ same (wpAny_bind (wpAny_attempt (wpAny_holding ?_))))
 unfold callGetattribute boundAndCalled
 rw [Bool.false_and,if_neg Bool.false_ne_true,ga_slot.bind]
 refine wpAny_bind (wpAny_pure (wpAny_call ?_))
 refine codeAny_call_builtin ga_slot.plain PySem.F.entry_bexc_ga ?_
 have ag:=PySem.F.args_bexc_ga (.ref x) (.str "__class__" s.toks)
 have ii:=inst_lk (M:=model prog w) I.at_ I.cls (looks_mroIn X be)
 refine @slot_check _ _ { s with toks:=s.toks+1 } (model prog w) "BaseException.__getattribute__" "BaseException" "__getattribute__" (.ref x) [.str "__class__" s.toks] _ (by decide +kernel) (by decide +kernel) ii ag ?_
 obtain ⟨miss,em⟩:=oga_as (.ref x) "__class__" s.toks
 rw [show ([Value.ref x]++[Value.str "__class__" s.toks])=[.ref x,.str "__class__" s.toks] from rfl,em]
 refine wpAny_bind (ty _ _ _ _ same (wpAny_bind (looks_find X I hf _ _ _ _ same ?_)))
 show wpAny _ _ (holding [Value.builtin "object.__class__"] (call (.builtin "getset_descriptor.__get__") [.builtin "object.__class__",.ref x,.ref C]) >>= ret) _ _ _
 refine wpAny_bind (wpAny_holding (wpAny_call (class_get (s:={ s with toks:=s.toks+1 }) (ox:=o) (od:=od) X I ob ?_)))
 exact wpAny_pure (wpAny_pure (wpAny_pure h))
end
end EX
namespace L2
open PySem PySem.Spec PyProof.Rows
def XO (a C:Addr) (od:Option Addr) (new:Bool) (h:Heap):Prop:=∃ vs sl,h.get? a=some ⟨.ref C,od,.fields vs,sl⟩/\1<vs.size/\(new=true->vs[1]?=some .none)
abbrev XHO (a C:Addr) (od:Option Addr) (new:Bool):HO:=.ext (XO a C od new)
def DO (a:Addr) (fs:List (Str × V)) (h:Heap):Prop:=fs.length<=100/\∃ mA,h.Ns1 a mA/\(∀ f,RelO (fs.lookup f) (mA f))/\PySem.Within mA (fs.map (·.1))
abbrev DHO (a:Addr) (fs:List (Str × V)):HO:=.ext (DO a fs)
section
variable {P:Program} {w:World} {H:Hp} {h:Heap} {a C:Addr} {od:Option Addr} {new:Bool} {fs:List (Str × V)}
theorem XO.ok (x:XO a C od new h):Vk P w H h a (XHO a C od new):=by
 obtain ⟨vs,sl,e,z⟩:=x
 exact ⟨⟨vs,sl,e,z⟩,⟨_,e⟩,fun h1 h2 ⟨vs,sl,e,z⟩ k=>⟨vs,sl,k _ e,z⟩⟩
theorem DO.ok (x:DO a fs h):Vk P w H h a (DHO a fs):=by
 obtain ⟨z,mA,⟨o,es,ep,e,r⟩,q⟩:=x
 exact ⟨⟨z,mA,⟨o,es,ep,e,r⟩,q⟩,⟨o,e⟩,fun h1 h2 ⟨z,mA,⟨o,es,ep,e,r⟩,q⟩ k=>⟨z,mA,⟨o,es,ep,k _ e,r⟩,q⟩⟩
theorem HOk.xo (x:HOk P w H h) (e:H a=some (XHO a C od new)):XO a C od new h:=(x a _ e).1
theorem HOk.do_ (x:HOk P w H h) (e:H a=some (DHO a fs)):DO a fs h:=(x a _ e).1
end
def veMro:List Value:=[.type "ValueError",.type "Exception",.type "BaseException",.type "object"]
def onlyVE:List Value->Bool
 | .ref _::r=>onlyVE r
 | l=>l == veMro
theorem refuse_ve (self:Value):∀ {l:List Value},onlyVE l=true->refuseLoop self "__setattr__" l=pure ()
 | [],e=>by cases e
 | v::r,e=>by
  cases v with
  | ref c=>rw [refuseLoop_ref]; exact refuse_ve self (l:=r) e
  | type n=>rw [show (Value.type n::r)=veMro from beq_iff_eq.mp e]; exact PySem.F.store_ValueError.passes self
  | _=>cases (show _=veMro from beq_iff_eq.mp e)
structure XCls (K:W.Frag) (C:Addr):Prop where
 sa:W.findIn K (.ref C) "__setattr__" = some (some (.builtin "object.__setattr__"))
 ga:W.findIn K (.ref C) "__getattribute__" = some (some (.builtin "BaseException.__getattribute__"))
 hk:W.findIn K (.ref C) "__getattr__" = some none
 ca:W.findIn K (.ref C) "__class__" = some (some (.builtin "object.__class__"))
 be:W.mroIn K C (.type "BaseException")=some true
 ob:W.mroIn K C (.type "object")=some true
 hd:W.hasDictIn K C=true
 ty:W.typeIn K (.ref C)=some (.type "type")
 rf:((W.clsIn K C).any fun cd=>onlyVE cd.mro)=true
 gs:W.specialIn K (.builtin "object.__class__") "__get__" = some (some (.builtin "getset_descriptor.__get__"))
 tk:W.takesIn K (.builtin "object.__class__")=some true
theorem sa_facts:EX.SaFacts:=⟨PySem.F.store_object.slot,PySem.F.store_object.entry,PySem.F.store_object.kind,PySem.F.store_object.split,PySem.F.store_object.args⟩
section
variable {K:W.Frag} {C x:Addr} {M:Model} {h:Heap} {f:Str} {o:Obj}
theorem XCls.setOk (c:XCls K C) (X:K.In h) (n:V6 K C f) (hx:h.get? x=some o) (hc:o.cls=.ref C):EX.SetOk M h x C f:=by
 refine ⟨W.looks_findIn X c.sa,W.looks_findIn X n, ?_,W.looks_mroIn X c.ob, ?_⟩
 ·obtain ⟨cd,hc',e⟩:=W.any_some c.rf
  have hm:W.Looks M h (mroOf (.ref C)) cd.mro:=(W.looks_clsIn X hc').andThen .now
  intro A Q E s k q
  rw [refuse_eq]
  refine wpAny_bind (EX.type_at hx hc _ _ _ _ k (wpAny_bind (hm _ _ _ _ k ?_)))
  rw [refuse_ve _ e]
  exact wpAny_pure q
 ·obtain ⟨cd,hc',e⟩:=W.any_some c.hd
  exact ⟨cd,W.looks_clsIn X hc',e⟩
theorem XCls.getOk (c:XCls K C) (X:K.In h) (n:V6 K C f):EX.GetOk M h C f:=by
 obtain ⟨cd,hc',e⟩:=W.any_some c.hd
 exact ⟨W.looks_findIn X c.ga,W.looks_findIn X c.hk,W.looks_findIn X n,W.looks_mroIn X c.be,cd,W.looks_clsIn X hc',e⟩
end
section
variable {X:Cx} {pins:List (Addr × Obj)} {σ:St} {H:Hp} {s:Shared} {h':Heap} {t':Nat}
theorem ext_ne {a b:Addr} {φ:Heap->Prop} {u:HO} (e:H a=some (.ext φ)) (q:H b=some u) (hu:∀ ψ,u≠.ext ψ):b≠a:=fun z=>by
 subst z; rw [q] at e; exact hu _ (Option.some.inj e)
theorem Zs.wr2 {a d:Addr} {o u:HO} {φ:Heap->Prop} (I:Zs X pins σ H s) (ea:H a=some (.ext φ)) (hd:s.heap.objs.size<=d) (k:∀ b v,b≠a->s.heap.get? b=some v->h'.get? b=some v)
  (na:Vk X.prog X.w (Z6 (Z6 H d u) a o) h' a o) (nd:Vk X.prog X.w (Z6 (Z6 H d u) a o) h' d u) (hh:∃ v,h'.get? a=some v):Zs X pins σ (Z6 (Z6 H d u) a o) { s with heap:=h',toks:=t' }:=by
 have hfd:H d=none:=I.hok.fresh hd
 have nda:d≠a:=fun z=>by rw [z,ea] at hfd; cases hfd
 have at_:∀ {b:Addr},b≠a->b≠d->Z6 (Z6 H d u) a o b=H b:=fun h1 h2=>by rw [Zh h1,Zh h2]
 have nd_:∀ {b:Addr} {v:HO},H b=some v->b≠d:=fun q z=>by rw [z,hfd] at q; cases q
 have na_:∀ {b:Addr},H b=none->b≠a:=fun q z=>by rw [z,ea] at q; cases q
 refine I.un ⟨fun b v q n _ _=>k b v (na_ n) q,fun b v q n _ _=>⟨v.slots,k b v (na_ n) q⟩,fun b v q n _=>?_,fun b v q _=>?_,fun b xs q=>?_,fun b v xs q=>?_,fun b ps q=>⟨#[], ?_⟩⟩ fun b v q=>?_
 ·rw [at_ (na_ n) (Nat.ne_of_lt (Nat.lt_of_lt_of_le (Heap.lt_size q) hd))]; exact n
 ·by_cases z:b=a
  ·rw [z]; exact hh
  ·exact ⟨v,k b v z q⟩
 ·rw [at_ (ext_ne ea q fun _ z=>nomatch z) (nd_ q)]; exact q
 ·rw [at_ (ext_ne ea q fun _ z=>nomatch z) (nd_ q)]; exact q
 ·rw [at_ (ext_ne ea q fun _ z=>nomatch z) (nd_ q),q]; simp
 ·by_cases z:b=a
  ·subst z; rw [Zq] at q; cases q; exact na
  ·by_cases z2:b=d
   ·subst z2; rw [Zh z,Zq] at q; cases q; exact nd
   ·rw [at_ z z2] at q
    refine (I.hok b v q).stay (fun c w' hc r=>k c w' ?_ r) (fun c r=>?_) fun c xs r=>?_
    ·rcases hc with hc | hc
     ·rw [hc]; exact z
     ·exact ext_ne ea hc fun _ y=>nomatch y
    ·rw [at_ (ext_ne ea r fun _ y=>nomatch y) (nd_ r)]; exact r
    ·rw [at_ (ext_ne ea r fun _ y=>nomatch y) (nd_ r)]; exact r
end
def sFldX (K:W.Frag) (ta tv:TE) (f:Str):TS:=fun D σ H=>tv σ H fun y H1=>ta σ H1 fun x H2=>∃ a C od new,x=.ref a/\H2 a=some (XHO a C od new)/\XCls K C/\V6 K C f /\
  ((od=none/\∀ d,H2 d=none->d≠a->D.nx σ (Z6 (Z6 H2 d (DHO d [(f,y)])) a (XHO a C (some d) new))) \/
   (∃ d fs,od=some d/\H2 d=some (DHO d fs)/\fs.length<100/\D.nx σ (Z6 H2 d (DHO d (putF f y fs)))))
section
variable {X:Cx} {o e value:Expr} {f:Str} {pos pos':Pos} {ta tv:TE}
theorem ps_fldX (ha:PE X o ta) (hv:PE X value tv) (hs:swapsWith value (some (.Attribute o f pos')) pos.line X.env=pure false):PS X (.Assign [.Attribute o f pos'] value pos) (sFldX X.K ta tv f):=by
 intro pins s σ H D I h
 refine plainObj_wpAny_Assign_Attribute (Vv (hv pins s σ H _ I h) fun u s1 ⟨y,H1,I1,ry,q⟩=>Vv (ha pins s1 σ H1 _ I1 q) fun ov s2 ⟨x,H2,I2,rx,a,C,od,new,ex,ea,c,n,q2⟩=>?_) hs
 subst ex
 obtain rfl:ov=Value.ref a:=rx
 obtain ⟨vs,sl,hx,z1,z2⟩:=I2.hok.xo ea
 have S:=c.setOk (M:=model X.prog X.w) I2.kIn n hx rfl
 rcases q2 with ⟨rfl,q2⟩ | ⟨d,fs,rfl,ed,hl,q2⟩
 ·refine EX.set_first sa_facts S hx rfl rfl rfl fun h' tk k e1 ns=>?_
  have hf:H2 s2.heap.objs.size=none:=I2.hok.fresh (Nat.le_refl _)
  have nx:s2.heap.objs.size≠a:=Nat.ne_of_gt (Heap.lt_size hx)
  refine ⟨σ,_,I2.wr2 (d:=s2.heap.objs.size) (u:=DHO s2.heap.objs.size [(f,y)]) (o:=XHO a C (some s2.heap.objs.size) new) ea (Nat.le_refl _) k (XO.ok ⟨vs,sl,e1,z1,z2⟩) (DO.ok ⟨by simp,_,ns,fun g=>?_,fun g hg=>?_⟩) ⟨_,e1⟩,q2 _ hf nx⟩
  ·by_cases z:g=f
   ·subst z; simp only [List.lookup,beq_self_eq_true,if_true]; exact ry
   ·simp only [List.lookup,beq_eq_false_iff_ne.mpr z,if_neg z]; trivial
  ·by_cases z:g=f
   ·subst z; simp
   ·exact absurd (show (if g=f then some u else none)=none from if_neg z) hg
 ·obtain ⟨z3,mA,ns,r,wi⟩:=I2.hok.do_ ed
  refine EX.set_next sa_facts S hx rfl rfl ns wi (by rw [List.length_map]; omega) fun h' tk sb ns'=>⟨σ,_, ?_,q2⟩
  have hd:∃ u,h'.get? d=some u:=let ⟨o,_,_,e',_⟩:=ns'; ⟨o,e'⟩
  refine I2.write (x:=d) (e:=d) (by rw [ed]; exact True.intro) (.inl rfl) (fun b v hb z=>(sb.2 b hb).trans z) hd (DO.ok ⟨?_,_,ns',fun g=>?_,fun g hg=>?_⟩)
  ·have:=length_putF f y fs; omega
  ·show RelO ((putF f y fs).lookup g) (if g=f then some u else mA g)
   rw [lookup_putF]
   by_cases z:g=f
   ·rw [if_pos z,if_pos z]; exact ry
   ·rw [if_neg z,if_neg z]; exact r g
  ·by_cases z:g=f
   ·rw [z]; exact (keys_putF f y fs).1
   ·exact (keys_putF f y fs).2 g (wi g fun z'=>hg (show (if g=f then some u else mA g)=none by rw [if_neg z]; exact z'))
def tFldX (K:W.Frag) (ta:TE) (f:Str):TE:=fun σ H Q=>ta σ H fun x H1=>∃ a C d new fs v,x=.ref a/\H1 a=some (XHO a C (some d) new)/\H1 d=some (DHO d fs)/\XCls K C/\V6 K C f/\fs.lookup f=some v/\Q v H1
theorem relv_nb {v:V} {u:Value} (r:Yq v u):∀ i,u≠.builtin i:=fun i z=>by
 subst z
 cases v with
 | non=>cases (show Value.builtin i=Value.none from r)
 | bl b=>cases (show Value.builtin i=Value.bool b from r)
 | int n=>obtain ⟨t,e⟩:=(show ∃ t,Value.builtin i=Value.int n t from r); cases e
 | str x=>obtain ⟨t,e⟩:=(show ∃ t,Value.builtin i=Value.str x t from r); cases e
 | byt b=>obtain ⟨t,e⟩:=(show ∃ t,Value.builtin i=Value.bytes b t from r); cases e
 | flt b=>obtain ⟨t,e⟩:=(show ∃ t,Value.builtin i=Value.float b t from r); cases e
 | ref a=>cases (show Value.builtin i=Value.ref a from r)
 | ty n=>cases (show Value.builtin i=Value.type n from r)
theorem pe_fldX (he:PE X e ta) (hb:attributeBase e f X.env (eval e X.env)=eval e X.env):PE X (.Attribute e f pos) (tFldX X.K ta f):=by
 intro pins s σ H Q I h
 refine attr_of hb (Vv (he pins s σ H _ I h) fun u s1 ⟨x,H1,I1,rx,a,C,d,new,fs,v,ex,ea,ed,c,n,l,q⟩=>?_)
 subst ex
 obtain rfl:u=Value.ref a:=rx
 obtain ⟨vs,sl,hx,_⟩:=I1.hok.xo ea
 obtain ⟨_,mA,ns,r,_⟩:=I1.hok.do_ ed
 obtain ⟨u',hu,ru⟩:=RelO.some_of (v:=v) (o:=mA f) (by rw [<-l]; exact r f)
 exact EX.get_at (c.getOk I1.kIn n) hx rfl rfl rfl ns.ns hu (relv_nb ru) ⟨v,H1,I1.tok _,ru,q⟩
end
def xIn (K:W.Frag) (C:Addr):Bool :=
 match K.lookup C with
 | some ⟨.type "type",_,.cls cd,⟨[_,_,_,_,some (.builtin n),_]⟩⟩=>match cd.mro with
  | .ref C'::bm=>C' == C && n == "ValueError.__new__" && !cd.hasDel && W.tailIn K veMro bm
  | _=>false
 | _=>false
theorem x_cls {K:W.Frag} {h:Heap} {C:Addr} (X:K.In h) (q:xIn K C=true):∃ nm qn N bs bm hdct sn sub ab col dd k0 k1 k2 k3 k5,
  h.get? C=some (excClassObj nm qn C N bs bm hdct sn sub ab col dd k0 k1 k2 k3 k5 "ValueError.__new__")/\OwnTail h veMro bm:=by
 unfold xIn at q
 split at q
 ·rename_i dd cd k0 k1 k2 k3 n k5 ho
  split at q
  ·rename_i C' bm hm
   simp only [Bool.and_eq_true,beq_iff_eq,Bool.not_eq_true'] at q
   obtain ⟨⟨⟨rfl,rfl⟩,hdel⟩,ht⟩:=q
   obtain ⟨nm,bs,mro,ns,qn,hd,sn,sub,ab,col,del⟩:=cd
   dsimp only at hm hdel
   subst hm
   subst hdel
   exact ⟨nm,qn,ns,bs,bm,hd,sn,sub,ab,col,dd,k0,k1,k2,k3,k5,X _ _ ho,W.tail_of_in X ht⟩
  ·cases q
 ·cases q
structure XMk (K:W.Frag) (C f:Addr):Prop where
 made:xIn K C=true
 init:W.findIn K (.ref C) "__init__" = some (some (.ref f))
 fn:W.isFn K (.ref f)=true
 kp:W.keepIn K (.ref C)=true
structure XMk0 (K:W.Frag) (C:Addr):Prop where
 made:xIn K C=true
 init:W.findIn K (.ref C) "__init__" = some (some (.builtin "ValueError.__init__"))
 kp:W.keepIn K (.ref C)=true
def tMkX (C:Addr) (sp:Sp) (E:XK) (t:TA):TE:=fun σ H Q=>t σ H fun vs H1=>vs.length<=100/\∀ x,H1 x=none->sp (.ref x::vs) (Z6 H1 x (XHO x C none true)) (fun v H2=>v=.non/\Q (.ref x) H2) E
section
variable {X:Cx} {CX:CXT} {k:Nat} {f C:Addr} {fd:FuncData} {ps:List Str} {sp:Sp} {E:XK} {x m:Str} {p pos:Pos} {e:Expr} {es:List Expr} {t:TA}
theorem run_mkX {pins:List (Addr × Obj)} {σ:St} {H:Hp} {s:Shared} {Q:VK} {us:List Value} {vs:List V} (M:XMk X.K C f) (F:Yj X.prog X.w X.K X.mg X.base CX k f fd ps sp) (hr:Vm (k+1) X.A) (hb:Vc X.K fd ps [])
  (hx:Passes CX X E) (I:Zs X pins σ H s) (r:Z0 vs us) (hz:vs.length<=100)
  (h:∀ x,H x=none->sp (.ref x::vs) (Z6 H x (XHO x C none true)) (fun v H2=>v=.non/\Q (.ref x) H2) E) :
  wpAny (model X.prog X.w) X.A (call (.ref C) us) (EP X pins σ Q) X.xe s:=by
 obtain ⟨nm,qn,N,bs,bm,hdct,sn,sub,ab,col,dd,k0,k1,k2,k3,k5,hC,T⟩:=x_cls I.kIn M.made
 have hq:=h (s.heap.objs.size+1) (I.hok.fresh (Nat.le_succ _))
 have I2:Zs X pins σ (Z6 H (s.heap.objs.size+1) (XHO (s.heap.objs.size+1) C none true)) { s with heap:=EX.made s.heap C us } :=
  I.laid (a:=s.heap.objs.size+1) (t':=s.toks) EX.made_keep (Nat.le_succ _) (XO.ok ⟨_,_,EX.made_at,by simp,fun _=>rfl⟩)
 have r2:Z0 (V.ref (s.heap.objs.size+1)::vs) (Value.ref (s.heap.objs.size+1)::us):=.cons rfl r
 have hl:(Value.ref (s.heap.objs.size+1)::us++[]).length=ps.length:=by
  rw [List.append_nil, <-r2.length]; exact F.len _ _ _ _ hq
 have hu:us.length<=sizeLine:=by rw [<-r.length]; exact Nat.le_of_lt (Vz (by omega))
 have bb:=hb _ (Value.ref (s.heap.objs.size+1)::us) I2.kIn hl
 rw [List.append_nil] at bb
 obtain ⟨hh,gg,d,tk,os⟩:=s
 refine EX.exc_call PySem.F.excBase_ValueError T hC (W.looks_findIn I.kIn M.init) (W.looks_typeIn I.kIn (beq_iff_eq.mp M.fn)) hu ?_
 refine wpAny_call (codeAny_mono (F.run _ X.stack _ _ ⟨Value.ref (hh.objs.size+1)::us,[]⟩ _ _ _ E (hr.make C us []) (I2.env0.make C us []) bb r2 hq) fun r s' hq'=>?_)
 cases r with
 | error e=>exact hx pins σ _ _ e s' I2 hq'
 | ok fl =>
  cases fl with
  | ret u =>
   obtain ⟨v,H',I3,rv,ev,q3⟩:=I2.after hq'
   subst ev
   exact ⟨rv,⟨V.ref (hh.objs.size+1),H',I3,rfl,q3⟩⟩
  | next=>exact False.elim hq'
  | brk=>exact False.elim hq'
  | cont=>exact False.elim hq'
theorem pe_mkX (M:XMk X.K C f) (F:Yj X.prog X.w X.K X.mg X.base CX k f fd ps sp) (hr:Vm (k+1) X.A) (hg:Gl X x) (hm:X.mg x=some (.ref C)) (hb:Vc X.K fd ps []) (hx:Passes CX X E)
  (ha:PA X (e::es) t) (hdb:(x == ("__debug__" : Str))=false:=by decide) (he:starEach (e::es) X.env=(false,eval e X.env)::starEach es X.env:=by rfl) (hpl:(backTo pos (starEach es X.env)).any (·.1)=false:=by rfl) :
  PE X (.Call (.Name x p) (e::es) [] pos) (tMkX C sp E t):=by
 intro pins s σ H Q I h
 refine wpAny_Call_Name_kw (ld_glob I hg hm ?_ hdb)
 exact W.callWith_K (h₀:=X.base) I.ok.mod.kin M.kp (Vv (ha pos pins s σ H _ I h) fun us s1 ⟨vs,H1,I1,r,z,q⟩=>⟨I1.kIn,run_mkX M F hr hb hx I1 r z q⟩) he hpl
end
def Cx.tr (X:Cx) (pn:List (Addr × Obj)) (W:St->Hp->Addr->Addr->Option Addr->Prop):Cx:={ X with pn:=pn,xe:=fun v s'=>∃ e σ' H' C od,v=.ref e/\Zs { X with pn:=pn } [] σ' H' s'/\H' e=some (XHO e C od true)/\W σ' H' e C od }
def Cx.ec (X:Cx) (e:Addr):Cx:={ X with A:=X.A.mark (some (.ref e)),calm:=false,xe:=fun _ _=>False }
section
variable {X:Cx} {pins pn:List (Addr × Obj)} {σ:St} {H:Hp} {s:Shared} {e:Addr} {W:St->Hp->Addr->Addr->Option Addr->Prop}
theorem Zs.toPn (I:Zs X pins σ H s):Zs { X with pn:=X.pn++pins } [] σ H s :=
 ⟨⟨I.ok.mod,I.ok.kind,I.ok.glob,I.ok.blt,I.ok.above,I.ok.inj,I.ok.has,I.ok.cab,I.ok.hd,I.ok.frames,I.ok.stk,I.ok.exf,I.ok.bs,I.ok.bsz,I.ok.noex,I.ok.exfs,I.ok.funs,I.ok.frf⟩,I.os,I.bare,I.base,I.loc,I.cell,I.free,I.freeC,
  fun p hp=>I.pin p (by simpa using hp),I.hok,I.len⟩
theorem Zs.ofPn (I:Zs { X with pn:=X.pn++pins } [] σ H s):Zs X pins σ H s :=
 ⟨⟨I.ok.mod,I.ok.kind,I.ok.glob,I.ok.blt,I.ok.above,I.ok.inj,I.ok.has,I.ok.cab,I.ok.hd,I.ok.frames,I.ok.stk,I.ok.exf,I.ok.bs,I.ok.bsz,I.ok.noex,I.ok.exfs,I.ok.funs,I.ok.frf⟩,I.os,I.bare,I.base,I.loc,I.cell,I.free,I.freeC,
  fun p hp=>I.pin p (by simpa using hp),I.hok,I.len⟩
theorem Zs.toEc (I:Zs X pins σ H s):Zs (X.ec e) pins σ H s :=
 ⟨⟨I.ok.mod,I.ok.kind,I.ok.glob,I.ok.blt,I.ok.above,I.ok.inj,I.ok.has,I.ok.cab,(fun z=>nomatch z),I.ok.frames,I.ok.stk,I.ok.exf,I.ok.bs,I.ok.bsz,I.ok.noex,I.ok.exfs,I.ok.funs,I.ok.frf⟩,I.os,I.bare,I.base,I.loc,I.cell,I.free,I.freeC,
  I.pin,I.hok,I.len⟩
theorem Zs.ofEc (ok:X.Ok) (I:Zs (X.ec e) pins σ H s):Zs X pins σ H s:=⟨ok,I.os,I.bare,I.base,I.loc,I.cell,I.free,I.freeC,I.pin,I.hok,I.len⟩
end
section
variable {X:Cx} {pins:List (Addr × Obj)} {σ:St} {H:Hp} {s:Shared}
theorem gone_ok {M:Model} {A:Around} {E:Value->Shared->Prop} {i:Nat} {n:Str} {pos:Pos} {Q:Unit->Shared->Prop} (I:Zs X pins σ H s) (hN:X.N.Nodup) (hi:X.N[i]?=some n) (hk:X.env.kindOf n=some .local)
  (h:∀ s',Zs X pins (σ.set i none) H s'->Q () s'):wpAny M A (do bindName X.env n .none; unbindBehindTheSuite X.env n pos) Q E s:=by
 obtain ⟨m,hn,hl⟩:=id I.loc
 have hcls:(X.env.scope.kind == .class || (X.env.scope.kind == .module && X.env.locals != X.env.globals))=false:=by rw [I.ok.kind]; rfl
 have hiσ:i<σ.length:=by rw [I.len]; exact (List.getElem?_eq_some_iff.mp hi).1
 obtain ⟨oL,_,_,hoL,_⟩:=id hn
 refine wpAny_nameGoes_keeps hk hn hcls fun h' v hn' hs=>?_
 have ne:∀ b o,X.s₀.heap.get? b=some o->b≠X.env.locals:=fun b o e=>Nat.ne_of_lt (Nat.lt_of_lt_of_le (Heap.lt_size e) I.ok.above)
 have hok:HOk X.prog X.w H h':=fun b ob e=>by
  refine (I.hok b ob e).stay (fun c w' hc q=>(hs.2 c ?_).trans q) (fun _ q=>q) fun _ _ q=>q
  rintro rfl
  rcases hc with rfl | hc
  ·rw [I.free] at e; cases e
  ·rw [I.free] at hc; cases hc
 refine h _ ⟨I.ok,I.os,I.bare,⟨fun b o e n hb hx=>?_,fun b o e n hb hx=>?_,I.base.free,fun b o e hx=>?_,I.base.tups,I.base.frzs,I.base.tbls⟩,⟨_,hn',fun j y v' e1 e2 e3=>?_⟩,fun y c e=>?_,I.free,I.freeC,fun p hp=>?_,hok,by simpa using I.len⟩
 ·exact (hs.2 b (ne b o e)).trans (I.base.keep b o e n hb hx)
 ·obtain ⟨sl,e1⟩:=I.base.slot b o e n hb hx
  exact ⟨sl,(hs.2 b (ne b o e)).trans e1⟩
 ·obtain ⟨o',e1⟩:=I.base.there b o e hx
  exact ⟨o',(hs.2 b (ne b o e)).trans e1⟩
 ·by_cases hj:j=i
  ·subst hj
   rw [List.getElem?_set_self hiσ] at e2
   cases e2
  ·rw [List.getElem?_set_ne (Ne.symm hj)] at e2
   obtain ⟨u',r',q⟩:=hl j y v' e1 e2 e3
   refine ⟨u',r', ?_⟩
   rcases q with ⟨k,e⟩ | ⟨k,c,e,z⟩
   ·refine .inl ⟨k, ?_⟩
    have:y≠n:=fun e=>hj (nodup_ix hN e1 (e ▸ hi))
    simp [this,e]
   ·exact .inr ⟨k,c,e,z.sameBut hs (I.cne y c e)⟩
 ·obtain ⟨w',z⟩:=I.cell y c e
  exact ⟨w',z.sameBut hs (I.cne y c e)⟩
 ·obtain ⟨e,n,ne,nf,d⟩:=I.pin p hp
  exact ⟨(hs.2 p.1 ne).trans e,n,ne,nf,d⟩
theorem Zs.noted {e C T:Addr} {od:Option Addr} {new:Bool} {h1 h2:Heap} {oe:Obj} (I:Zs X pins σ H s) (ea:H e=some (XHO e C od new)) (N:EX.Noted X.stack e T oe s.heap h1) (k:∀ b,b≠T->h2.get? b=h1.get? b)
  (x:XO e C od false h2):Zs X pins σ (Z6 H e (XHO e C od false)) { s with heap:=h2 }:=by
 have nT:∀ b o,s.heap.get? b=some o->b≠T:=fun b o q z=>Nat.lt_irrefl _ (Nat.lt_of_lt_of_le (Heap.lt_size (z ▸ q)) N.new)
 have ne:∀ {b},H b=none->b≠e:=fun q z=>by rw [z,ea] at q; cases q
 have keep:∀ b o,b≠e->b ∉ frs X.stack->s.heap.get? b=some o->h2.get? b=some o:=fun b o hb hf q=>(k b (nT b o q)).trans (N.keep b o hb hf q)
 have slot:∀ b o,b≠e->s.heap.get? b=some o->∃ sl,h2.get? b=some { o with slots:=sl }:=fun b o hb q=>by
  obtain ⟨sl,z⟩:=N.slot b o hb q
  exact ⟨sl,(k b (nT b o q)).trans z⟩
 refine I.call (ch:=[]) (g':=s.gens) (d':=s.drawn) (t':=s.toks) ⟨fun b o q n hf _=>keep b o (ne n) hf q,fun b o q n _ _=>slot b o (ne n) q,fun b o q n _=>?_,fun b o q _=>?_,fun b xs q=>?_,fun b o u q=>?_,fun b p q=>⟨#[], ?_⟩⟩ (fun b u q=>?_) I.bare (fun b z=>absurd z (by simp))
 ·rw [Zh (ne n)]; exact n
 ·by_cases z:b=e
  ·subst z; obtain ⟨vs,sl,q',_⟩:=x; exact ⟨_,q'⟩
  ·obtain ⟨sl,q'⟩:=slot b o z q; exact ⟨_,q'⟩
 ·rw [Zh (ext_ne ea q fun _ z=>nomatch z)]; exact q
 ·rw [Zh (ext_ne ea q fun _ z=>nomatch z)]; exact q
 ·rw [Zh (ext_ne ea q fun _ z=>nomatch z),q]; simp
 ·by_cases z:b=e
  ·subst z; rw [Zq] at q; cases q; exact x.ok
  ·rw [Zh z] at q
   have nf:∀ {c u},H c=some u->c ∉ frs X.stack:=fun q' hf=>by rw [I.stkFree _ hf] at q'; cases q'
   refine (I.hok b u q).stay (fun c w' hc r=>?_) (fun c r=>?_) fun c xs r=>?_
   ·rcases hc with hc | hc
    ·subst hc; exact keep c w' z (nf q) r
    ·exact keep c w' (ext_ne ea hc fun _ y=>nomatch y) (nf hc) r
   ·rw [Zh (ext_ne ea r fun _ y=>nomatch y)]; exact r
   ·rw [Zh (ext_ne ea r fun _ y=>nomatch y)]; exact r
end
def Ends.less (D:Ends) (i:Nat):Ends:={ nx:=fun σ H=>D.nx (σ.set i none) H,rt:=D.rt,bk:=fun σ H=>D.bk (σ.set i none) H,ct:=fun σ H=>D.ct (σ.set i none) H }
section
variable {X:Cx} {W:St->Hp->Addr->Addr->Option Addr->Prop}
theorem is_type_in {K:PySem.W.Frag} {M:Model} {h:Heap} {C:Addr} (k:K.In h) (e:(PySem.W.clsIn K C).isSome=true):EX.Lk M h (isType (.ref C)) true:=by
 unfold PySem.W.clsIn at e
 split at e
 ·rename_i ho; exact EX.is_cls (k _ _ ho) rfl
 ·cases e
end
section
variable {X:Cx}
end
theorem XCls.here {K:W.Frag} {C:Addr} (c:XCls K C):(W.clsIn K C).isSome=true:=by
 obtain ⟨cd,e,_⟩:=W.any_some c.hd
 rw [e]; rfl
theorem kitx_exc {K:W.Frag} {x C:Addr} (c:XCls K C):W.KitX K (.ref x) (.ref C) (fun h=>∃ o od,W.InstAt h x o C od) where
 ty:=fun M h X ⟨o,od,I⟩=>I.type
 it:=fun M h X _=>is_type_in X c.here
 ne:=fun h tp dd its n sl X htp=>by
  refine Bool.eq_false_iff.mpr fun q=>?_
  have e:C=tp:=Value.ref.inj (beq_iff_eq.mp q)
  subst e
  have hs:=c.here
  unfold W.clsIn at hs
  split at hs
  ·rename_i ho
   have z:=X _ _ ho
   rw [htp] at z
   cases z
  ·cases hs
 ca:=fun X ⟨o,od,I⟩ k=>EX.class_at X I c.ga c.hk c.be c.ob (EX.find_class c.here c.ca c.gs c.tk) k
def IsX (H:Hp) (a C:Addr):Prop:=∃ od new,H a=some (XHO a C od new)/\∀ d,od=some d->∃ fs,H d=some (DHO d fs)
theorem IsX.inst {P:Program} {w:World} {H:Hp} {h:Heap} {a C:Addr} (x:IsX H a C) (ok:HOk P w H h):∃ o od,W.InstAt h a o C od:=by
 obtain ⟨od,new,ea,hd⟩:=x
 obtain ⟨vs,sl,e,_⟩:=ok.xo ea
 cases od with
 | none=>exact ⟨_,none,e,rfl,rfl,trivial⟩
 | some d =>
  obtain ⟨fs,ed⟩:=hd d rfl
  obtain ⟨_,mA,⟨o,es,ep,ho,_⟩,_⟩:=ok.do_ ed
  exact ⟨_,some o,e,rfl,rfl,ho⟩
theorem valsRefs:∀ {ds:List Addr} {us:List Value},Z0 (ds.map V.ref) us->us=ds.map Value.ref
 | [],_,.nil=>rfl
 | d::ds,_,.cons r t=>by rw [valsRefs t,show _=Value.ref d from r]; rfl
section
variable {X:Cx}
theorem call_isiX:CallR X (.builtin "isinstance") (fun xs H Q=>∃ a C D b,xs=[.ref a,.ref D]/\IsX H a C/\XCls X.K C/\W.kitOne X.K (.ref C) (.ref D)=some b/\Q (.bl b) H):=by
 intro pins s σ H xs us Q I r h
 obtain ⟨a,C,D,b,rfl,ix,c,e,q⟩:=h
 obtain ⟨u,w',rfl,rx,ry⟩:=vals2 r
 cases rx; cases ry
 exact W.kia_one (kitx_exc c) I.kIn (ix.inst I.hok) e (fun z=>nomatch z) fun tk=>⟨.bl b,H,I.tok _,rfl,q⟩
theorem call_isiXB:CallR X (.builtin "isinstance") (fun xs H Q=>∃ a C T b,xs=[.ref a,.ty T]/\IsX H a C/\XCls X.K C/\W.kitOne X.K (.ref C) (.type T)=some b/\Q (.bl b) H):=by
 intro pins s σ H xs us Q I r h
 obtain ⟨a,C,T,b,rfl,ix,c,e,q⟩:=h
 obtain ⟨u,w',rfl,rx,ry⟩:=vals2 r
 cases rx; cases ry
 exact W.kia_one (kitx_exc c) I.kIn (ix.inst I.hok) e (fun z=>nomatch z) fun tk=>⟨.bl b,H,I.tok _,rfl,q⟩
theorem call_isiXT:CallR X (.builtin "isinstance") (fun xs H Q=>∃ (a C p:Addr) (ds:List Addr) (b:Bool),xs=[.ref a,.ref p]/\H p=some (.tup (ds.map V.ref))/\IsX H a C/\XCls X.K C/\W.kitAny X.K (.ref C) (ds.map Value.ref)=some b/\Q (.bl b) H):=by
 intro pins s σ H xs us Q I r h
 obtain ⟨a,C,p,ds,b,rfl,hp,ix,c,e,q⟩:=h
 obtain ⟨u,w',rfl,rx,ry⟩:=vals2 r
 cases rx; cases ry
 obtain ⟨_,its,rv,o,ho,hc,n,hd⟩:=(show Vk X.prog X.w H s.heap p (.tup (ds.map V.ref)) from I.hok p _ hp)
 rw [valsRefs rv] at hd
 obtain ⟨oc,od,dt,sl⟩:=o
 obtain rfl:oc=_:=hc
 obtain rfl:dt=_:=hd
 exact W.kia_tup (kitx_exc c) I.kIn (ix.inst I.hok) ho e (fun z=>nomatch z) fun tk=>⟨.bl b,H,I.tok _,rfl,q⟩
end
end L2
namespace EX
open PySem
def QV (h:Heap) (vs:Array Value):Prop:=vs[1]?=some .none\/∃ T oT ts,vs[1]?=some (.ref T)/\h.get? T=some oT/\oT.data=.fields ts/\ts[3]?=some .none
section
variable {M:Model} {A:Around} {E:Value->Shared->Prop} {s:Shared} {env:Env} {outer:List Env} {base:Heap} {L e T:Addr} {oe:Obj} {vs:Array Value} {Q:Unit->Shared->Prop}
theorem note_any (hfr:A.frames=some (env::outer)) (hl:s.heap.FunFrames base (env::outer)) (hf:env.frame=some L)
  (he:s.heap.get? e=some oe) (hd:oe.data=.fields vs) (hq:QV s.heap vs)
  (h:∀ h' T,Noted (env::outer) e T oe s.heap h'->Q () { s with heap:=h' }):wpAny M A (noteFrame (.ref e) env) Q E s:=by
 rcases hq with h1 | ⟨T0,oT,ts,h1,hT,hdT,h3⟩
 ·exact note_new hfr hl hf he hd h1 h
 have hz:1<vs.size:=(Array.getElem?_eq_some_iff.mp h1).1
 have hne:=frames_ne hl he hd
 unfold noteFrame
 simp only [hf]
 refine wpAny_bind (wpAny_field he hd h1 ?_)
 rw [if_pos (show (Value.ref T0 != Value.none)=true from by simp)]
 refine wpAny_bind (wpAny_field hT hdT h3 ?_)
 rw [if_neg (show ¬ ((Value.none == rawInt L)=true) from by simp [rawInt])]
 refine wpAny_bind (wpAny_setField hT hdT (Array.getElem?_eq_some_iff.mp h3).1 ?_)
 rw [Heap.update_setField_same _ _ _ _ _ _ hT hdT h3]
 refine wpAny_bind (wpAny_frameOf_fun hfr hl hf fun h₁ sl=>wpAny_bind (wpAny_entryPlaceOf fun pl hpl=>?_))
 unfold EntryCells.newEntry newFields
 refine wpAny_bind (wpAny_newObj_type ?_ (hpl.sizeOk5 _ _ _ _ _))
 have e1:h₁.get? e=some oe:=(sl.2.1 e hne).trans he
 have z1:h₁.objs.size=s.heap.objs.size:=sl.1
 refine wpAny_setField (Heap.get?_push_of_some _ e1) hd hz (h _ h₁.objs.size ⟨fun b o hb hn q=>?_,fun b o hb q=>?_, ?_,Nat.le_of_eq z1.symm, ?_⟩)
 ·exact (Heap.get?_update_other _ _ (Ne.symm hb)).trans (Heap.get?_push_of_some _ ((sl.2.1 b hn).trans q))
 ·obtain ⟨x,q'⟩:=sl.2.2 b o q
  exact ⟨x,(Heap.get?_update_other _ _ (Ne.symm hb)).trans (Heap.get?_push_of_some _ q')⟩
 ·exact Heap.get?_update_self _ (Heap.get?_push_of_some _ e1) (Obj.isFreed_of_fields (Obj.data_mapFields hd _))
 ·refine ⟨_,_,(Heap.get?_update_other _ _ (Nat.ne_of_lt (Heap.lt_size e1))).trans (Heap.get?_push_size h₁ rfl),rfl, ?_⟩
  simp only [List.size_toArray,List.length_append,List.length_cons,List.length_nil]
  omega
theorem leave_at (hfr:A.frames=some (env::outer)) (hl:s.heap.FunFrames base (env::outer)) (hf:env.frame=some L)
  (he:s.heap.get? e=some oe) (hd:oe.data=.fields vs) (hq:QV s.heap vs)
  (h:∀ h1 h2 T,Noted (env::outer) e T oe s.heap h1->(∀ b,b≠T->h2.get? b=h1.get? b)->QV h2 (vs.setIfInBounds 1 (.ref T))->Q () { s with heap:=h2 }):wpAny M A (leaving env (.ref e)) Q E s:=by
 have hz:1<vs.size:=by
  rcases hq with h1 | ⟨_,_,_,h1,_⟩
  ·exact (Array.getElem?_eq_some_iff.mp h1).1
  ·exact (Array.getElem?_eq_some_iff.mp h1).1
 unfold leaving
 refine wpAny_bind (note_any hfr hl hf he hd hq fun g1 T N=>?_)
 obtain ⟨oT,ts,hT,hdT,hz3⟩:=N.tb
 have v1:(vs.setIfInBounds 1 (.ref T))[1]?=some (.ref T):=by simp [hz]
 refine wpAny_setFlight_none (s:={ s with heap:=g1 }) N.exc (Obj.data_mapFields hd _) v1 hT hdT hz3 (h g1 _ T N (fun b hb=>Heap.get?_update_other _ _ (Ne.symm hb)) (.inr ⟨T,_,_,v1,Heap.get?_update_self _ hT (Obj.isFreed_of_fields (Obj.data_mapFields hdT _)),Obj.data_mapFields hdT _, ?_⟩))
 simp [hz3]
end
end EX
namespace L2
open PySem PySem.Spec PyProof.Rows
def QX (h:Heap) (a:Addr):Prop:=∃ oe vs,h.get? a=some oe/\oe.data=.fields vs/\EX.QV h vs
theorem upd_self {H:Hp} {a:Addr} {o:HO} (e:H a=some o):Z6 H a o=H:=by
 funext b
 by_cases z:b=a
 ·subst z; rw [Zq,e]
 ·rw [Zh z]
abbrev XWT:=St->Hp->Addr->Addr->Option Addr->Prop
def CX1 (P:Program) (w:World):CXT:=fun outer H s E v s'=>∃ a H' C od,v=.ref a/\s'.os=s.os/\AllBare s'.gens/\Un (frs outer) [] H H' s.heap s'.heap/\HOk P w H' s'.heap/\H' a=some (XHO a C od false)/\QX s'.heap a/\E (.ref C) od H'
def XW (X:Cx) (W:XWT):Prop:=∀ (pins:List (Addr × Obj)) (σ:St) (H:Hp) (s:Shared) (a C:Addr) (od:Option Addr) (new:Bool),Zs X pins σ H s->H a=some (XHO a C od new)->QX s.heap a->W σ (Z6 H a (XHO a C od false)) a C od->X.xe (.ref a) s
section
variable {X:Cx} {pins:List (Addr × Obj)} {σ:St} {H:Hp} {s s':Shared}
theorem leave_ok {M:Model} {Q:Unit->Shared->Prop} {E:Value->Shared->Prop} {a C:Addr} {od:Option Addr} {new:Bool} (I:Zs X pins σ H s) (ea:H a=some (XHO a C od new)) (q:QX s.heap a) (hst:X.stack=X.env::X.outer) (hfr:X.env.frame=some X.env.locals)
  (k:∀ h',Zs X pins σ (Z6 H a (XHO a C od false)) { s with heap:=h' }->QX h' a->Q () { s with heap:=h' }):wpAny M X.A (leaving X.env (.ref a)) Q E s:=by
 obtain ⟨oe,vs,he,hd,qv⟩:=q
 obtain ⟨vs',sl,hx,z1,_⟩:=I.hok.xo ea
 rw [he] at hx
 cases hx
 cases hd
 have fr:X.A.frames=some (X.env::X.outer):=by rw [I.ok.frames,hst]
 have hl:s.heap.FunFrames X.base (X.env::X.outer):=by rw [<-hst]; exact I.stack
 refine EX.leave_at fr hl hfr he rfl qv fun g1 g2 T N k2 qv2=>?_
 have nT:a≠T:=fun z=>Nat.lt_irrefl _ (Nat.lt_of_lt_of_le (Heap.lt_size (z ▸ he)) N.new)
 have e2:g2.get? a=some ⟨.ref C,od,.fields (vs.setIfInBounds 1 (.ref T)),sl⟩:=(k2 a nT).trans N.exc
 exact k g2 (I.noted (T:=T) ea (by rw [hst]; exact N) k2 ⟨_,sl,e2,by simp [z1],fun z=>nomatch z⟩) ⟨_,_,e2,rfl,qv2⟩
theorem CX1.inv {E:XK} {v:Value} (I:Zs X pins σ H s) (h:CX1 X.prog X.w X.stack H s E v s'):∃ a H' C od,v=.ref a/\Zs X pins σ H' s'/\H' a=some (XHO a C od false)/\QX s'.heap a/\E (.ref C) od H':=by
 obtain ⟨a,H',C,od,rfl,os,bare,un,hok,ea,q,e⟩:=h
 exact ⟨a,H',C,od,rfl,I.call' (ch:=[]) os un hok bare (fun b z=>absurd z (by simp)),ea,q,e⟩
end
theorem Y3 {P:Program} {w:World} {K:W.Frag} {mg:Str->Option Value} {base:Heap} {N:List Str} {qual:Str} {scope:Scope} {f:Addr} {cd:Value} {A:Around} {outer:List Env} {s:Shared} {H:Hp} {E:XK} :
  XW (cxOf (CX1 P w) P w K mg base N qual scope f cd A outer s H E) (fun _ H' _ C od=>E (.ref C) od H'):=by
 intro pins σ H' s' a C od new I ea q e
 refine leave_ok (X:=cxOf (CX1 P w) P w K mg base N qual scope f cd A outer s H E) I ea q rfl rfl fun h' J q'=>?_
 exact ⟨a,_,C,od,rfl,J.os,J.bare,J.base,J.hok,Zq,q',e⟩
section
variable {P:Program} {w:World} {K:W.Frag} {mg:Str->Option Value} {base:Heap}
theorem Uf.okX {x qual:Str} {st:Stmt} {f:Addr} {fd:FuncData} {N ps:List Str} {k:Nat} {sp:Sp} (F:Uf K x qual st f fd) (S:Zr N ps (Zb st)) (len:∀ vs H Q E,sp vs H Q E->vs.length=ps.length)
  (hbody:∀ (cdv:Value) (A:Around) (outer:List Env) (s:Shared) (H:Hp) (vs:List V) (Q:VK) (E:XK),Vm k (A.deeper (envOfC qual (Zb st) s.heap.objs.size f cdv))->sp vs H Q E ->
   ∃ t,PSs (cxOf (CX1 P w) P w K mg base N qual (Zb st) f cdv A outer s H E) (defBody st) t/\t { nx:=fun _ H'=>Q .non H',rt:=Q } (start N vs) H):Yj P w K mg base (CX1 P w) (k+1) f fd ps sp:=by
 obtain ⟨oc,od,kV,doc,pm,an,cdv,ct,osl,rfl,lk,hcd⟩:=F.ex
 exact fn_of lk hcd S len fun A outer s H vs Q E hr hsp=>hbody cdv A outer s H vs Q E hr hsp
end
def FnX (P:Program) (w:World) (K:W.Frag) (mg:Str->Option Value) (base:Heap) (k:Nat) (x:Str) (ps:List Str) (sp:Sp):Prop :=
 ∃ f fd,Yj P w K mg base (CX1 P w) k f fd ps sp/\Vc K fd ps []/\W.keepIn K (.ref f)=true/\mg x=some (.ref f)
def tCallX (sp:Sp) (W:XWT) (t:TA):TE:=fun σ H Q=>t σ H fun vs H1=>sp vs H1 Q fun Cv od H'=>∀ a C,Cv=.ref C->H' a=some (XHO a C od false)->W σ H' a C od
def tRaiseX (K:PySem.W.Frag) (W:XWT) (te:TE):TS:=fun _ σ H=>te σ H fun v H1=>∃ a C od,v=.ref a/\H1 a=some (XHO a C od true)/\XCls K C/\W σ (Z6 H1 a (XHO a C od false)) a C od
section
variable {X:Cx} {W:XWT} {k:Nat} {x:Str} {ps:List Str} {sp:Sp} {p pos:Pos} {e:Expr} {es:List Expr} {t:TA} {te:TE}
theorem Vt (G:FnX X.prog X.w X.K X.mg X.base k x ps sp) (hw:XW X W) (hr:Vm k X.A) (hg:Gl X x) (ha:PA X (e::es) t) (hdb:(x == ("__debug__" : Str))=false:=by decide)
  (he:starEach (e::es) X.env=(false,eval e X.env)::starEach es X.env:=by rfl) (hpl:(backTo pos (starEach es X.env)).any (·.1)=false:=by rfl) :
  PE X (.Call (.Name x p) (e::es) [] pos) (tCallX sp W t):=by
 obtain ⟨f,fd,F,hb,kp,m⟩:=G
 intro pins s σ H Q I h
 refine wpAny_Call_Name_kw (ld_glob I hg m ?_ hdb)
 refine PySem.W.callWith_K (h₀:=X.base) I.ok.mod.kin kp (Vv (ha pos pins s σ H _ I h) fun us s1 ⟨vs,H1,I1,r,q⟩=>⟨I1.kIn, ?_⟩) he hpl
 have hl:(us++[]).length=ps.length:=by rw [List.append_nil, <-r.length]; exact F.len _ _ _ _ q
 have bb:=hb s1 us I1.kIn hl
 rw [List.append_nil] at bb
 refine wpAny_call (codeAny_mono (F.run X.A X.stack s1 H1 ⟨us,[]⟩ us vs Q _ hr I1.env0 bb r q) fun r s' hq=>?_)
 cases r with
 | error v =>
  have hq:CX1 X.prog X.w X.stack H1 s1 (fun Cv od H'=>∀ a C,Cv=.ref C->H' a=some (XHO a C od false)->W σ H' a C od) v s':=hq
  obtain ⟨a,H',C,od,rfl,I',ea,qx,w'⟩:=CX1.inv I1 hq
  exact hw pins σ H' s' a C od false I' ea qx (by rw [upd_self ea]; exact w' a C rfl ea)
 | ok fl =>
  cases fl with
  | ret u=>exact I1.after hq
  | next=>exact False.elim hq
  | brk=>exact False.elim hq
  | cont=>exact False.elim hq
theorem ps_raiseX (hw:XW X W) (he:PE X e te) (hc:X.calm=true):PS X (.Raise (some e) none pos) (tRaiseX X.K W te):=by
 intro pins s σ H D I h
 rw [arm_exec_Raise]
 refine wpAny_bind (wpAny_standAt (EX.raise_at (I.ok.hd hc) ?_))
 refine wpAny_bind (Vv (he pins s σ H _ I h) fun v s1 ⟨x,H1,I1,rx,a,C,od,ex,ea,c,q⟩=>wpAny_bind (wpAny_standAt (wpAny_pure ?_)))
 subst ex
 obtain rfl:v=Value.ref a:=rx
 obtain ⟨vs,sl,hx,z1,z2⟩:=I1.hok.xo ea
 exact ⟨a,C,_,vs,rfl,hx,rfl,rfl,z2 rfl,PySem.W.looks_mroIn I1.kIn c.be,PySem.W.looks_typeIn I1.kIn c.ty,hw pins σ H1 s1 a C od true I1 ea ⟨_,_,hx,rfl,.inl (z2 rfl)⟩ q⟩
end
def Cx.tx (X:Cx) (pn:List (Addr × Obj)) (W:XWT):Cx:={ X with pn:=pn,xe:=fun v s'=>∃ e σ' H' C od new,v=.ref e/\Zs { X with pn:=pn } [] σ' H' s'/\H' e=some (XHO e C od new)/\QX s'.heap e/\W σ' (Z6 H' e (XHO e C od false)) e C od }
section
variable {X:Cx} {pins pn:List (Addr × Obj)} {σ:St} {H:Hp} {s:Shared} {e:Addr} {W:XWT}
theorem Zs.toTx (I:Zs { X with pn:=pn } pins σ H s):Zs (X.tx pn W) pins σ H s:=I.wish _
theorem Zs.ofTx (I:Zs (X.tx pn W) pins σ H s):Zs { X with pn:=pn } pins σ H s:=(show Zs ({ X with pn:=pn }:Cx) pins σ H s from Zs.unwish (X:={ X with pn:=pn }) I)
theorem xw_tx:XW (X.tx pn W) W:=by
 intro pins σ H s a C od new I ea q w'
 exact ⟨a,σ,H,C,od,new,rfl,I.ofTx.pins_of fun p hp=>absurd hp (by simp),ea,q,w'⟩
end
def tTryX (K:PySem.W.Frag) (D0:Addr) (W:XWT) (i:Nat) (tb:List (Addr × Obj)->TS) (th:Addr->TS):TS:=fun D σ H=>(∀ pn,tb pn D σ H)/\∀ σ' H' e C od,H' e=some (XHO e C od false)->W σ' H' e C od ->
 PySem.W.mroIn K C (.ref D0)=some true/\th e (D.less i) (σ'.set i (some (.ref e))) H'
section
variable {X:Cx}
theorem ps_tryX (W:XWT) (i:Nat) {D0:Addr} {n cls:Str} {body suite:List Stmt} {b₀:Stmt} {p hp pos:Pos} {tb:List (Addr × Obj)->TS} {th:Addr->TS} (hb:∀ pn,PSs (X.tx pn W) body (tb pn)) (hh:∀ e,PSs (X.ec e) (b₀::suite) (th e)) (hst:X.stack=X.env::X.outer)
  (hfr:X.env.frame=some X.env.locals) (hg:Gl X cls) (hm:X.mg cls=some (.ref D0)) (dc:XCls X.K D0) (di:(PySem.W.clsIn X.K D0).isSome=true) (hN:X.N.Nodup) (hi:X.N[i]?=some n) (hx:X.env.scope.names.lookup n=some .local)
  (hdb:(cls == ("__debug__" : Str))=false:=by decide) :
  PS X (.Try body [.ExceptHandler (some (.Name cls p)) (some n) (b₀::suite) hp] [] [] pos) (tTryX X.K D0 W i tb th):=by
 intro pins s σ H D I ⟨h1,h2⟩
 refine wpAny_Try_except (wpAny_mono (hb (X.pn++pins) [] s σ H D I.toPn.toTx (h1 _)) (fun f s1 q=>?_) fun v s1 q=>?_)
 ·cases f with
  | next=>obtain ⟨σ',H',I',q⟩:=q; exact wpAny_execs_nil ⟨σ',H',I'.ofTx.ofPn,q⟩
  | ret u=>obtain ⟨v,σ',H',I',r,q⟩:=q; exact ⟨v,σ',H',I'.ofTx.ofPn,r,q⟩
  | brk=>obtain ⟨σ',H',I',q⟩:=q; exact ⟨σ',H',I'.ofTx.ofPn,q⟩
  | cont=>obtain ⟨σ',H',I',q⟩:=q; exact ⟨σ',H',I'.ofTx.ofPn,q⟩
 ·obtain ⟨e,σ',H',C,od,new,rfl,I1,ea,qx,hw⟩:=q
  have I1:Zs X pins σ' H' s1:=I1.ofPn
  obtain ⟨vs,sl,hx1,z1,_⟩:=I1.hok.xo ea
  obtain ⟨oe',vs',he',hd',qv⟩:=qx
  rw [hx1] at he'
  cases he'
  cases hd'
  obtain ⟨hm1,hth⟩:=h2 σ' _ e C od Zq hw
  have fr:X.A.frames=some (X.env::X.outer):=by rw [I1.ok.frames,hst]
  have hl:s1.heap.FunFrames X.base (X.env::X.outer):=by rw [<-hst]; exact I1.stack
  refine EX.note_any fr hl hfr hx1 rfl qv fun g1 T N=>?_
  have e1:g1.get? e=some ⟨.ref C,od,.fields (vs.setIfInBounds 1 (.ref T)),sl⟩:=N.exc
  have v1:(vs.setIfInBounds 1 (.ref T))[1]?=some (.ref T):=by simp [z1]
  obtain ⟨oT,ts,hT,hdT,hz3⟩:=N.tb
  refine EX.flight_off (s:={ s1 with heap:=g1 }) e1 rfl v1 hT hdT hz3 fun g2 k2 tb2=>?_
  have nT:∀ b o,s1.heap.get? b=some o->b≠T:=fun b o q z=>Nat.lt_irrefl _ (Nat.lt_of_lt_of_le (Heap.lt_size (z ▸ q)) N.new)
  have e2:g2.get? e=some ⟨.ref C,od,.fields (vs.setIfInBounds 1 (.ref T)),sl⟩:=(k2 e (nT _ _ hx1)).trans e1
  have I2:Zs X pins σ' (Z6 H' e (XHO e C od false)) { s1 with heap:=g2 }:=I1.noted (T:=T) ea (by rw [hst]; exact N) k2 ⟨_,sl,e2,by simp [z1],fun z=>nomatch z⟩
  refine EX.handle_at (D:=D0) (C:=C) (ld_glob (X:=X.ec e) I2.toEc hg hm ⟨rfl,PySem.W.looks_typeIn I2.kIn dc.ty,is_type_in I2.kIn di,PySem.W.looks_mroIn I2.kIn dc.be,EX.type_at e2 rfl,PySem.W.looks_mroIn I2.kIn hm1, ?_⟩ hdb)
  obtain ⟨oT',ts',hT',hdT',hz'⟩:=tb2
  refine EX.flight_off (s:={ s1 with heap:=g2 }) e2 rfl v1 hT' hdT' hz' fun g3 k3 _=>?_
  have hTn:Z6 H' e (XHO e C od false) T=none:=by
   rw [Zh (Ne.symm (nT _ _ hx1))]; exact I1.hok.fresh N.new
  have I3:Zs X pins σ' (Z6 H' e (XHO e C od false)) { s1 with heap:=g3 }:=by
   refine Zs.turned (s:={ s1 with heap:=g2 }) (it:=T) (h':=g3) (t':=s1.toks) I2 (fun b o hb q=>(k3 b hb).trans q) hTn (Nat.ne_of_gt (Nat.lt_of_lt_of_le I1.lt N.new)) (.inr (Nat.le_trans I1.sz N.new)) (fun y c q=>?_) fun y hy=>?_
   ·obtain ⟨v,o,ho,_⟩:=I1.cell y c q
    exact nT c o ho
   ·exact nT y.1 y.2 (I1.pin y hy).1
  refine store_ok (X:=X.ec e) I3.toEc hN hi (.inl hx) (show Yq (.ref e) (.ref e) from rfl) (fun s4 I4=>?_) (.inr hx)
  refine wpAny_mono (hh e pins s4 _ _ (D.less i) I4 hth) (fun f s5 q=>?_) fun _ _ z=>z
  cases f with
  | next=>obtain ⟨σ5,H5,I5,q⟩:=q; exact gone_ok (I5.ofEc I1.ok) hN hi hx fun s6 I6=>⟨_,H5,I6,q⟩
  | ret u=>obtain ⟨v,σ5,H5,I5,r,q⟩:=q; exact gone_ok (I5.ofEc I1.ok) hN hi hx fun s6 I6=>⟨v,_,H5,I6,r,q⟩
  | brk=>obtain ⟨σ5,H5,I5,q⟩:=q; exact gone_ok (I5.ofEc I1.ok) hN hi hx fun s6 I6=>⟨_,H5,I6,q⟩
  | cont=>obtain ⟨σ5,H5,I5,q⟩:=q; exact gone_ok (I5.ofEc I1.ok) hN hi hx fun s6 I6=>⟨_,H5,I6,q⟩
end
section
variable {X:Cx}
end
section
variable {X:Cx} {pins:List (Addr × Obj)} {σ:St} {H:Hp} {s:Shared}
end
def MFnX (P:Program) (w:World) (K:W.Frag) (mg:Str->Option Value) (base:Heap) (k:Nat) (C:Addr) (m:Str) (ps:List Str) (sp:Sp):Prop :=
 ∃ f fd,Cls K C/\Meth K C m f/\Yj P w K mg base (CX1 P w) k f fd ps sp/\Vc K fd ps []
def xkW (W:XWT) (σ:St):XK:=fun Cv od H'=>∀ a C,Cv=.ref C->H' a=some (XHO a C od false)->W σ H' a C od
def tMethX (C:Addr) (m:Str) (sp:Sp) (W:XWT) (ta:TE) (t:TA):TE:=fun σ H Q=>ta σ H fun x H1=>∃ a dx fs,x=.ref a/\H1 a=some (.ins C dx fs)/\fs.lookup m=none/\t σ H1 fun vs H2=>sp (x::vs) H2 Q (xkW W σ)
section
variable {X:Cx} {W:XWT} {k:Nat} {f C:Addr} {fd:FuncData} {m:Str} {ps:List Str} {sp:Sp} {o e:Expr} {es:List Expr} {ta:TE} {t:TA} {p pos apos:Pos}
theorem run_X {pins:List (Addr × Obj)} {σ:St} {H:Hp} {s:Shared} {Q:VK} {us:List Value} {vs:List V} (F:Yj X.prog X.w X.K X.mg X.base (CX1 X.prog X.w) k f fd ps sp) (hw:XW X W) (hr:Vm k X.A) (hb:Vc X.K fd ps [])
  (I:Zs X pins σ H s) (r:Z0 vs us) (h:sp vs H Q (xkW W σ)):wpAny (model X.prog X.w) X.A (call (.ref f) us) (EP X pins σ Q) X.xe s:=by
 have hl:(us++[]).length=ps.length:=by rw [List.append_nil, <-r.length]; exact F.len _ _ _ _ h
 have bb:=hb s us I.kIn hl
 rw [List.append_nil] at bb
 refine wpAny_call (codeAny_mono (F.run X.A X.stack s H ⟨us,[]⟩ us vs Q _ hr I.env0 bb r h) fun r s' hq=>?_)
 cases r with
 | error v =>
  have hq:CX1 X.prog X.w X.stack H s (xkW W σ) v s':=hq
  obtain ⟨a,H',C,od,rfl,I',ea,qx,w'⟩:=CX1.inv I hq
  exact hw pins σ H' s' a C od false I' ea qx (by rw [upd_self ea]; exact w' a C rfl ea)
 | ok fl =>
  cases fl with
  | ret u=>exact I.after hq
  | next=>exact False.elim hq
  | brk=>exact False.elim hq
  | cont=>exact False.elim hq
theorem Vb {pl:Sem Bool} (G:MFnX X.prog X.w X.K X.mg X.base k C m ps sp) (hw:XW X W) (hr:Vm k X.A) (ho:PE X o ta) (ha:PA X (e::es) t)
  (hst:starEach (e::es) X.env=(false,eval e X.env)::starEach es X.env:=by rfl) (hpl:(backTo pos (starEach es X.env)).any (·.1)=false:=by rfl)
  (ht:eval (.Call (.Attribute o m apos) (e::es) [] pos) X.env=(do
   let ov <-eval o X.env
   standAt apos.atName
   let (f,first) <-holding [ov] (getMethod ov m pl)
   callWith pos f first (backTo pos (starEach (e::es) X.env)) (backToKw pos (keywordEach [] X.env))):=by rfl) :
  PE X (.Call (.Attribute o m apos) (e::es) [] pos) (tMethX C m sp W ta t):=by
 obtain ⟨f,fd,c,hm,F,hb⟩:=G
 intro pins s σ H Q I h
 refine PySem.W.methodCall_KW (pl:=pl) (Vv (ho pins s σ H _ I h) fun u s1 ⟨x,H1,I1,rx,a,dx,fs,ex,ea,l,q⟩=>?_) ht
 subst ex
 obtain rfl:u=Value.ref a:=rx
 refine getmeth_ok I1 ea c hm l ?_
 refine PySem.W.callWith_K (first:=[.ref a]) (h₀:=X.base) I.ok.mod.kin hm.kp (Vv (ha pos pins s1 σ H1 _ I1 q) fun us s2 ⟨vs,H2,I2,r,q2⟩=>⟨I2.kIn, ?_⟩) hst hpl
 exact run_X (us:=.ref a::us) (vs:=.ref a::vs) F hw hr hb I2 (.cons rfl r) q2
theorem pe_methX0 {pl:Sem Bool} (G:MFnX X.prog X.w X.K X.mg X.base k C m ps sp) (hw:XW X W) (hr:Vm k X.A) (ho:PE X o ta)
  (ht:eval (.Call (.Attribute o m apos) [] [] pos) X.env=(do
   let ov <-eval o X.env
   standAt apos.atName
   let (f,first) <-holding [ov] (getMethod ov m pl)
   callWith pos f first (backTo pos (starEach [] X.env)) (backToKw pos (keywordEach [] X.env))):=by rfl) :
  PE X (.Call (.Attribute o m apos) [] [] pos) (tMethX C m sp W ta tNil):=by
 obtain ⟨f,fd,c,hm,F,hb⟩:=G
 intro pins s σ H Q I h
 refine PySem.W.methodCall_KW (pl:=pl) (Vv (ho pins s σ H _ I h) fun u s1 ⟨x,H1,I1,rx,a,dx,fs,ex,ea,l,q⟩=>?_) ht
 subst ex
 obtain rfl:u=Value.ref a:=rx
 refine getmeth_ok I1 ea c hm l ?_
 exact PySem.W.callWith_K0 (first:=[.ref a]) I1.kIn hm.kp (run_X (us:=[.ref a]) (vs:=[.ref a]) F hw hr hb I1 (.cons rfl .nil) q)
end
section
variable {X:Cx}
theorem call_tuple_any:CallR X (.type "tuple") (fun xs H Q=>∃ p ys,xs=[.ref p]/\(Yc X.K H p ys\/Yg X.K H p ys)/\∀ t H',Zt H H'->Yg X.K H' t ys->Q (.ref t) H'):=by
 intro pins s σ H xs us Q I rs h
 obtain ⟨p,ys,e,h,q⟩:=h
 refine Yu pins s σ H xs us Q I rs ⟨p,ys,e, ?_⟩
 rcases h with h | h
 ·exact .inl ⟨h,fun l hl=>q l _ (Zt.lay hl) (Yg.of Zq)⟩
 ·exact .inr ⟨h,q p H (Zt.refl H) h⟩
def rInsert:V->List V->Hp->VK->Prop:=fun x vs H Q=>∃ l xs k y,x=.ref l/\vs=[.int ((k:Nat):Int),y]/\H l=some (.lst xs)/\k<=xs.length/\xs.length<sizeLine/\Q .non (Z6 H l (.lst (xs.take k++y::xs.drop k)))
theorem mt_insert:MtM X "list.insert" rInsert:=by
 intro pins s σ H x vs v us Q I rx rv h
 obtain ⟨l,xs,k,y,rfl,rfl,hH,hk,hz,q⟩:=h
 cases rx
 obtain ⟨u,us',rfl,ru,rv'⟩:∃ u us',us=u::us'/\Yq (.int ((k:Nat):Int)) u/\Z0 [y] us':=by
  cases rv with
  | cons a b=>exact ⟨_,_,rfl,a,b⟩
 obtain ⟨w,rfl,rw'⟩:=rv'.one
 obtain ⟨t,rfl⟩:=ru
 obtain ⟨z,its,n,r,hl,e⟩:=I.lstM hH
 have hs:=sizeLine_eq
 obtain ⟨xx,hxx⟩:∃ xx:Int,xx=((k:Nat):Int):=⟨_,rfl⟩
 rw [<-hxx]
 have ft:=fitsIndex_both (k:=xx) (by omega) (by omega)
 have hsz:its.toArray.size<=sizeLine:=by rw [List.size_toArray]; omega
 have M:=fun hc0=>AutoListH.list_insert_list_int_val_1 l its.toArray n xx t w hc0 hsz
 have hc0:¬ (!Builtin.List.listFitsIndex xx)=true:=by rw [ft]; exact Bool.false_ne_true
 refine call_meets F.slot_list_insert ⟨_,e,rfl⟩ F.entry_list_insert (F.args_list_insert_3 _ _ _) (M hc0) ⟨e, ?_⟩
 have kz:(if xx<0 then (xx+((its.toArray.size:Nat):Int)).toNat else min xx.toNat its.toArray.size)=k:=by
  rw [if_neg (by omega),List.size_toArray]
  omega
 refine ⟨.non,_,I.lset (its':=its.take k++w::its.drop k) hH e ?_ ((r.take k).append (.cons rw' (r.drop k))) ?_,rfl,q⟩
 ·show ((its.toArray.extract 0 (if xx<0 then (xx+((its.toArray.size:Nat):Int)).toNat else min xx.toNat its.toArray.size)).push w++its.toArray.extract (if xx<0 then (xx+((its.toArray.size:Nat):Int)).toNat else min xx.toNat its.toArray.size))=_
  rw [kz]
  simp
  exact List.take_of_length_le (by rw [List.length_drop]; exact Nat.le_refl _)
 ·rw [List.length_append,List.length_cons,List.length_take,List.length_drop]
  omega
end
def xOk (K:W.Frag) (C:Addr) (pre:List Value) (x:Str):Bool :=
 W.findIn K (.ref C) "__setattr__" == some (some (.builtin "object.__setattr__")) && (W.findIn K (.ref C) "__getattribute__" == some (some (.builtin "BaseException.__getattribute__")) &&
 (W.findIn K (.ref C) "__getattr__" == some none && (W.findIn K (.ref C) "__class__" == some (some (.builtin "object.__class__")) && (W.hasDictIn K C && (W.typeIn K (.ref C) == some (.type "type") &&
 (((W.clsIn K C).any fun cd=>cd.mro == pre++veMro) && (W.specialIn K (.builtin "object.__class__") "__get__" == some (some (.builtin "getset_descriptor.__get__")) &&
 (W.takesIn K (.builtin "object.__class__") == some true && (W.findIn K (.ref C) x == some none && (xIn K C && W.keepIn K (.ref C)))))))))))
theorem only_ve:∀ (as:List Addr),onlyVE (as.map Value.ref++veMro)=true
 | []=>by decide +kernel
 | a::as=>only_ve as
structure XOk (K:W.Frag) (C:Addr) (as:List Addr) (x:Str):Prop where
 xc:XCls K C
 mro:∀ b,W.mroIn K C b=some ((as.map Value.ref++veMro).contains b)
 here:(W.clsIn K C).isSome=true
 no:V6 K C x
 made:xIn K C=true
 kp:W.keepIn K (.ref C)=true
theorem xok_of {K:W.Frag} {C:Addr} {a:Addr} {as:List Addr} {x:Str} (h:xOk K C ((a::as).map Value.ref) x=true):XOk K C (a::as) x:=by
 unfold xOk at h
 simp only [Bool.and_eq_true,beq_iff_eq] at h
 obtain ⟨h1,h2,h3,h4,h5,h6,h7,h8,h9,h10,h11,h12⟩:=h
 obtain ⟨cd,hc,hm⟩:=W.any_some h7
 have hm:cd.mro=(a::as).map Value.ref++veMro:=beq_iff_eq.mp hm
 have mro:∀ b,W.mroIn K C b=some (((a::as).map Value.ref++veMro).contains b):=fun b=>by
  unfold W.mroIn
  rw [hc,Option.bind_some,hm]
  rfl
 have inVE:∀ b,veMro.contains b=true->(((a::as).map Value.ref++veMro).contains b)=true:=fun b hb=>by
  rw [List.contains_iff_mem] at hb ⊢
  exact List.mem_append_right _ hb
 refine ⟨⟨h1,h2,h3,h4, ?_, ?_,h5,h6, ?_,h8,h9⟩,mro,by rw [hc]; rfl,h10,h11,h12⟩
 ·rw [mro,inVE _ (by decide +kernel)]
 ·rw [mro,inVE _ (by decide +kernel)]
 ·rw [hc]
  show onlyVE cd.mro=true
  rw [hm]; exact only_ve _
theorem XOk.ve {K:W.Frag} {C M:Addr} {y:Str} (x:XOk K C [C,M] y):W.kitOne K (.ref C) (.type "ValueError")=some true:=by
 unfold W.kitOne
 rw [if_neg (by simp)]
 unfold W.kitCls
 dsimp only
 rw [if_pos (by decide +kernel)]
 show W.mroIn K C (.type "ValueError")=some true
 rw [x.mro]
 exact congrArg some (List.contains_iff_mem.mpr (List.mem_append_right _ (by decide +kernel)))
theorem XOk.up {K:W.Frag} {C M:Addr} {y:Str} (x:XOk K C [C,M] y):W.mroIn K C (.ref M)=some true:=by
 rw [x.mro]
 congr 1
 rw [List.contains_iff_mem]
 simp
theorem kit_self {K:W.Frag} {C:Addr}:W.kitOne K (.ref C) (.ref C)=some true:=by
 unfold W.kitOne
 rw [if_pos (beq_self_eq_true _)]
end L2
namespace K05
open PySem PySem.Spec PyProof.Rows L2 K01
theorem b_len:bootBuiltins "len" = some (.builtin "len"):=by decide +kernel
theorem b_ord:bootBuiltins "ord" = some (.builtin "ord"):=by decide +kernel
theorem b_max:bootBuiltins "max" = some (.builtin "max"):=by decide +kernel
theorem b_sorted:bootBuiltins "sorted" = some (.builtin "sorted"):=by decide +kernel
theorem Uc:bootBuiltins "isinstance" = some (.builtin "isinstance"):=by decide +kernel
theorem b_tuple:bootBuiltins "tuple" = some (.type "tuple"):=by decide +kernel
theorem b_list:bootBuiltins "list" = some (.type "list"):=by decide +kernel
theorem b_set:bootBuiltins "set" = some (.type "set"):=by decide +kernel
theorem b_int:bootBuiltins "int" = some (.type "int"):=by decide +kernel
theorem b_str:bootBuiltins "str" = some (.type "str"):=by decide +kernel
theorem b_bool:bootBuiltins "bool" = some (.type "bool"):=by decide +kernel
structure Bn (mg:Str->Option Value):Prop where
 len:mg "len" = none
 ord:mg "ord" = none
 max:mg "max" = none
 sorted:mg "sorted" = none
 isinstance:mg "isinstance" = none
 tuple:mg "tuple" = none
 list:mg "list" = none
 set:mg "set" = none
 int:mg "int" = none
 str:mg "str" = none
 bool:mg "bool" = none
 range:mg "range" = none
 zip:mg "zip" = none
 reversed:mg "reversed" = none
 enumerate:mg "enumerate" = none
 sum:mg "sum" = none
structure Cn (mg:Str->Option Value):Prop where
 LETTERS:∃ t,mg "LETTERS" = some (.str LET t)
 SIGNS:∃ t,mg "SIGNS" = some (.str SGN t)
 GREATEST_WHOLE:∃ t,mg "GREATEST_WHOLE" = some (.int 1000000000000000000 t)
 GREATEST_NUMBER:∃ t,mg "GREATEST_NUMBER" = some (.int 999 t)
 LONGEST_TEXT:∃ t,mg "LONGEST_TEXT" = some (.int 200 t)
 LONGEST_NAME:∃ t,mg "LONGEST_NAME" = some (.int 8 t)
 DEEPEST:∃ t,mg "DEEPEST" = some (.int 100 t)
 GREATEST_SIZE:∃ t,mg "GREATEST_SIZE" = some (.int 1000000 t)
theorem Z2 {b:Bool} {A B:Prop} (h:b=false) (q:B):if b=true then A else B:=by subst h; exact iteF q
theorem Yv {b:Bool} {A B:Prop} (h:b=true) (q:A):if b=true then A else B:=by subst h; exact iteT q
theorem alwaysT {σ:L2.St} {H:Hp} {A B:Hp->Prop} (h:A H):tAlways σ H fun ok H3=>if ok=true then A H3 else B H3:=by
 show if true=true then A H else B H
 exact iteT (A:=A H) (B:=B H) h
abbrev s_law_feed:Stmt:=top 43
abbrev N_law_feed:List Str:=["_law_script","_law_k","_law_cell"]
theorem sc_law_feed:Zr N_law_feed ["_law_script","_law_k"] (Zb s_law_feed):=by trivial
abbrev s_law_draw:Stmt:=top 44
abbrev N_law_draw:List Str:=["_law_feed_here","_law_many","_law_figure","_law_number_here"]
theorem sc_law_draw:Zr N_law_draw ["_law_feed_here","_law_many"] (Zb s_law_draw):=by trivial
abbrev s_law_name:Stmt:=top 45
abbrev N_law_name:List Str:=["_law_feed_here","_law_words","_law_letters"]
theorem sc_law_name:Zr N_law_name ["_law_feed_here"] (Zb s_law_name):=by trivial
abbrev s_law_number:Stmt:=top 46
abbrev N_law_number:List Str:=["_law_feed_here","_law_some"]
theorem sc_law_number:Zr N_law_number ["_law_feed_here"] (Zb s_law_number):=by trivial
abbrev s_law_whole:Stmt:=top 47
abbrev N_law_whole:List Str:=["_law_feed_here","_law_some","_law_number_here"]
theorem sc_law_whole:Zr N_law_whole ["_law_feed_here"] (Zb s_law_whole):=by trivial
abbrev s_law_text:Stmt:=top 48
abbrev N_law_text:List Str:=["_law_feed_here","_law_many","_law_signs","_law_start","_law_step"]
theorem Vu:Zr N_law_text ["_law_feed_here"] (Zb s_law_text):=by trivial
def spFeed (K:W.Frag):Sp:=fun vs H Q _=>∃ (a:Addr) (ns:List Int) (k:Int),vs=[.ref a,.int k]/\Yc K H a (ns.map V.int)/\ns.length<=63/\0<=k/\∀ (l:Addr) (H':Hp),Zt H H'->H l=none->Feed H' l->Q (.ref l) H'
def spDraw:Sp:=fun vs H Q _=>∃ (l:Addr) (m:Int),vs=[.ref l,.int m]/\Feed H l/\0<m/\m<1073741824/\∀ (r:Int) (H':Hp),0<=r->r<m->Y7 l H H'->Q (.int r) H'
def nameOk (x:Str):Prop:=1<=x.length/\x.length<=8/\∀ c∈x.cps.toList,97<=c/\c<=122
def textOk (x:Str):Prop:=x.length<=200/\gdS x
def spStrD (p:Str->Prop):Sp:=fun vs H Q _=>∃ l:Addr,vs=[.ref l]/\Feed H l/\∀ (x:Str) (H':Hp),p x->Y7 l H H'->Q (.str x) H'
def spIntD (p:Int->Prop):Sp:=fun vs H Q _=>∃ l:Addr,vs=[.ref l]/\Feed H l/\∀ (n:Int) (H':Hp),p n->Y7 l H H'->Q (.int n) H'
instance (x:Str):Decidable (nameOk x):=inferInstanceAs (Decidable (_/\_/\_))
theorem words_ok:∀ x∈(["a","ab","abc","z","zz","abcdefgh","zzzzzzzz","b","ba","row"]:List Str),nameOk x:=by decide +kernel
theorem let_ok:∀ c∈(Str.cps "abcdefghijklmnopqrstuvwxyz").toList,97<=c/\c<=122:=by decide +kernel
instance (c:Nat):Decidable (gdC c):=inferInstanceAs (Decidable (_/\_/\_))
theorem signs_ok : ∀ c ∈ (((((" !#$&'()*+,-./0123456789:;<=>?\x40[]^_{|}~" : Str) ++ ("\"" : Str)) ++ ("\\" : Str)) ++ ("`" : Str)) ++ ("ABCDEFGHIJKLMNOPQRSTUVWXYZabcdefghijklmnopqrstuvwxyz" : Str)).cps.toList, gdC c := by decide +kernel
theorem pickS (ss:List Str) {r:Int} (h0:0<=r) (h1:r<ss.length):∃ x,x∈ss/\atI (ss.map V.str) r=some (.str x):=by
 have hj:r.toNat<ss.length:=by omega
 refine ⟨ss[r.toNat],List.getElem_mem hj, ?_⟩
 have z:atI (ss.map V.str) ((r.toNat:Nat):Int)=some (.str ss[r.toNat]):=Z1 (by rw [List.getElem?_map,List.getElem?_eq_getElem hj]; rfl)
 rw [show ((r.toNat:Nat):Int)=r by omega] at z
 exact z
theorem pickI (ns:List Int) {r:Int} (h0:0<=r) (h1:r<ns.length):∃ n,n∈ns/\atI (ns.map V.int) r=some (.int n):=by
 have hj:r.toNat<ns.length:=by omega
 refine ⟨ns[r.toNat],List.getElem_mem hj, ?_⟩
 have z:atI (ns.map V.int) ((r.toNat:Nat):Int)=some (.int ns[r.toNat]):=Z1 (by rw [List.getElem?_map,List.getElem?_eq_getElem hj]; rfl)
 rw [show ((r.toNat:Nat):Int)=r by omega] at z
 exact z
theorem pickC (cs:List Nat) {r:Int} (h0:0<=r) (h1:r<cs.length):∃ c,c∈cs/\atI cs r=some c:=by
 have hj:r.toNat<cs.length:=by omega
 refine ⟨cs[r.toNat],List.getElem_mem hj, ?_⟩
 have z:atI cs ((r.toNat:Nat):Int)=some cs[r.toNat]:=Z1 (List.getElem?_eq_getElem hj)
 rw [show ((r.toNat:Nat):Int)=r by omega] at z
 exact z
def OnesP (p:Nat->Prop) (ss:List Str):Prop:=∀ x∈ss,∃ c,p c/\x=⟨#[c]⟩
theorem ones_sum {p:Nat->Prop}:∀ {ss:List Str},OnesP p ss->(ss.map (·.length)).sum=ss.length
 | [],_=>rfl
 | x::ss,h=>by
  obtain ⟨c,_,rfl⟩:=h x List.mem_cons_self
  have h2:=ones_sum (ss:=ss) fun y my=>h y (List.mem_cons_of_mem _ my)
  simp only [List.map_cons,List.sum_cons,List.length_cons,h2]
  show 1+ss.length=ss.length+1
  omega
theorem ones_more {p:Nat->Prop} {ss:List Str} {c:Nat} (h:OnesP p ss) (hc:p c):OnesP p (ss++[⟨#[c]⟩]):=fun x mx=>by
 rcases List.mem_append.mp mx with mx | mx
 ·exact h x mx
 ·rw [List.mem_singleton.mp mx]; exact ⟨c,hc,rfl⟩
theorem join_go:∀ (l:List Str) (acc:Array Nat),(l.foldl (fun acc p=>acc++(Str.cps "")++p.cps) acc).toList=acc.toList++(l.map fun x=>x.cps.toList).flatten
 | [],acc=>by simp
 | x::l,acc=>by
  rw [List.foldl_cons,join_go l,List.map_cons,List.flatten_cons,Array.toList_append,Array.toList_append]
  have e:(Str.cps "").toList=[]:=by decide +kernel
  rw [e,List.append_nil,List.append_assoc]
theorem join_list:∀ ss:List Str,(Txt.join "" ss).cps.toList=(ss.map fun x=>x.cps.toList).flatten
 | []=>rfl
 | x::ss=>by
  show ((ss.foldl (fun acc p=>acc++(Str.cps "")++p.cps) x.cps)).toList=_
  rw [join_go,List.map_cons,List.flatten_cons]
theorem join_codes {p:Nat->Prop} {ss:List Str} (h:OnesP p ss):∀ c∈(Txt.join "" ss).cps.toList,p c:=by
 intro c mc
 rw [join_list] at mc
 obtain ⟨l,ml,mc⟩:=List.mem_flatten.mp mc
 obtain ⟨x,mx,rfl⟩:=List.mem_map.mp ml
 obtain ⟨c',pc,rfl⟩:=h x mx
 have e:c=c':=by simpa using mc
 rw [e]
 exact pc
theorem join_len {p:Nat->Prop} {ss:List Str} (h:OnesP p ss):(Txt.join "" ss).length=ss.length:=by
 show (Txt.join "" ss).cps.size=_
 rw [<-Array.length_toList,join_list,List.length_flatten,List.map_map, <-ones_sum h]
 congr 1
theorem nameT {i:Nat} {v:V} {σ:L2.St} {H:Hp} {A B:L2.St->Hp->Prop} (h:A (σ.set i (some v)) H):gName i v σ H fun σ2 H2=>tAlways σ2 H2 fun ok H3=>if ok=true then A σ2 H3 else B σ2 H3 :=
 alwaysT (σ:=σ.set i (some v)) (A:=A (σ.set i (some v))) (B:=B (σ.set i (some v))) h
section
variable {P:Program} {w:World} {K:W.Frag} {mg:Str->Option Value} {base:Heap} {f:Addr} {fd:FuncData}
theorem ok_feed (F:Uf K "_law_feed" "_law_feed" s_law_feed f fd) (m:Bn mg):Yj P w K mg base CX0 1 f fd ["_law_script","_law_k"] (spFeed K):=by
 refine F.ok sc_law_feed (fun vs H Q E h=>?_) (fun cdv A outer s H vs Q E hr h=>?_)
 ·obtain ⟨a,ns,k,rfl,_⟩:=h
  rfl
 obtain ⟨a,ns,k,rfl,hS,h63,hk,q⟩:=h
 refine ⟨_,(@Zj _ _ _ _ _ (@Ze _ _ _ _ _ _ _ _ (@Zm _ _ _ _ _ _ _ _ Ym (@Z9 _ _ _ _ _ _ _ _ _ Yy rfl m.len b_len (Zf (pv 0) Zx rfl) (by decide) (by decide) rfl rfl) Zz (Zd _)) (@Zv _ _ _ (@Zc _ _ _ _ (@Yf _ _ _ _ (Zf Zz (Zf Zz (Zf (pv 1) (Zf Zz Zx rfl) rfl) rfl) rfl)))) Zl) (@Zj _ _ _ _ _ (@Zk _ 2 _ _ _ _ _ sc_law_feed.nd rfl (by trivial) (@Za _ _ _ _ _ _ _ Z8 (pv 0) (@Zg _ _ _ _ _ _ _ _ Vi (pv 1) (@Z9 _ _ _ _ _ _ _ _ _ Yy rfl m.len b_len (Zf (pv 0) Zx rfl) (by decide) (by decide) rfl rfl)) (fun _ _=>rfl)) rfl (by trivial)) (@Zv _ _ _ (@Zc _ _ _ _ (@Yf _ _ _ _ (Zf (@Z9 _ _ _ _ _ _ _ _ _ (call_max2 rfl) rfl m.max b_max (Zf Zz (Zf (@Zg _ _ _ _ _ _ _ _ Y9 (pv 2) (@Zg _ _ _ _ _ _ _ _ op_pow Zz Zz)) Zx rfl) rfl) (by decide) (by decide) rfl rfl) (Zf (pv 2) (Zf (pv 1) (Zf Zz Zx rfl) rfl) rfl) rfl)))))), ?_⟩
 have hl:(ns.map V.int).length=ns.length:=List.length_map _
 refine ⟨_,rfl,a,_,rfl,.inl hS,rfl,_,rfl, ?_⟩
 refine ite2 (fun c=>?_) (fun c=>?_)
 ·refine ⟨_,rfl,(sz 4),fun l hl'=>?_⟩
  exact q l _ ((Zt.refl H).put hl') hl' ⟨_,_,_,_,Zq⟩
 ·have c':0<ns.length:=by
   rcases Nat.eq_zero_or_pos ns.length with z | z
   ·exfalso
    apply c
    rw [hl,z]
    rfl
   ·exact z
  have hpos:(0:Int)<(((ns.map V.int).length:Nat):Int):=by rw [hl]; omega
  have hr0:=Int.emod_nonneg k (Int.ne_of_gt hpos)
  have hr1:=Int.emod_lt_of_pos k hpos
  generalize hix:k % (((ns.map V.int).length:Nat):Int)=ix at hr0 hr1
  have hj:ix.toNat<ns.length:=by omega
  have hat:atI (ns.map V.int) ix=some (.int ns[ix.toNat]):=by
   have z:atI (ns.map V.int) ((ix.toNat:Nat):Int)=some (.int ns[ix.toNat]):=Z1 (by rw [List.getElem?_map,List.getElem?_eq_getElem hj] <;> rfl)
   rw [show ((ix.toNat:Nat):Int)=ix by omega] at z
   exact z
  refine ⟨_,rfl,_,rfl,_,rfl,a,_,rfl,.inl hS,_,_,rfl,rfl,hpos,a,_,_,_,rfl,rfl,hS,(by rw [hix]; exact hat), ?_⟩
  refine ⟨_,rfl,_,_,rfl,rfl,⟨by decide,by decide,by decide⟩,_,_,rfl,rfl,_,_,rfl,_,rfl,_,rfl,(sz 4),fun l hl'=>?_⟩
  exact q l _ ((Zt.refl H).put hl') hl' ⟨_,_,_,_,Zq⟩
theorem step_upd {l:Addr} {H:Hp} (a b c d:Int):Y7 l H (Z6 H l (.lst [.int a,.int b,.int c,.int d])):=⟨fun x o n h=>by rw [Zh n]; exact h,a,b,c,d,Zq⟩
theorem ok_draw (F:Uf K "_law_draw" "_law_draw" s_law_draw f fd):Yj P w K mg base CX0 1 f fd ["_law_feed_here","_law_many"] spDraw:=by
 refine F.ok sc_law_draw (fun vs H Q E h=>?_) (fun cdv A outer s H vs Q E hr h=>?_)
 ·obtain ⟨l,m,rfl,_⟩:=h
  rfl
 obtain ⟨l,m,rfl,⟨a,b,c,d,hH⟩,hm,hm2,q⟩:=h
 refine ⟨_,(@Zj _ _ _ _ _ (@ps_asg _ _ _ _ _ _ (@Zg _ _ _ _ _ _ _ _ Yx (@Za _ _ _ _ _ _ _ Z8 (pv 0) Zz (fun _ _=>rfl)) Zz) (@pg_sub _ _ _ _ _ _ _ (pv 0) Zz set_list (by trivial)) (by trivial) (by trivial) (by trivial)) (@Zj _ _ _ _ _ (@Ze _ _ _ _ _ _ _ _ (@Zm _ _ _ _ _ _ _ _ op_gt (@Za _ _ _ _ _ _ _ Z8 (pv 0) Zz (fun _ _=>rfl)) Zz (Zd _)) (@Zj _ _ _ _ _ (@Zk _ 2 _ _ _ _ _ sc_law_draw.nd rfl (by trivial) (@Zg _ _ _ _ _ _ _ _ Vi (@Za _ _ _ _ _ _ _ Z8 (pv 0) Zz (fun _ _=>rfl)) (pv 1)) rfl (by trivial)) (@Zj _ _ _ _ _ (@ps_asg _ _ _ _ _ _ (@Zg _ _ _ _ _ _ _ _ op_fdiv (@Za _ _ _ _ _ _ _ Z8 (pv 0) Zz (fun _ _=>rfl)) (pv 1)) (@pg_sub _ _ _ _ _ _ _ (pv 0) Zz set_list (by trivial)) (by trivial) (by trivial) (by trivial)) (@Zv _ _ _ (@Zc _ _ _ _ (pv 2))))) Zl) (@Zj _ _ _ _ _ (@Zk _ 3 _ _ _ _ _ sc_law_draw.nd rfl (by trivial) (@Zg _ _ _ _ _ _ _ _ Vi (@Zg _ _ _ _ _ _ _ _ Yx (@Zg _ _ _ _ _ _ _ _ Yx (@Za _ _ _ _ _ _ _ Z8 (pv 0) Zz (fun _ _=>rfl)) (@Zg _ _ _ _ _ _ _ _ Vl Zz (@Za _ _ _ _ _ _ _ Z8 (pv 0) Zz (fun _ _=>rfl)))) (@Zg _ _ _ _ _ _ _ _ Vl Zz (@Za _ _ _ _ _ _ _ Z8 (pv 0) Zz (fun _ _=>rfl)))) Zz) rfl (by trivial)) (@Zj _ _ _ _ _ (@Zk _ 3 _ _ _ _ _ sc_law_draw.nd rfl (by trivial) (@Zg _ _ _ _ _ _ _ _ Vi (@Zg _ _ _ _ _ _ _ _ Yx (@Zg _ _ _ _ _ _ _ _ Yx (@Zg _ _ _ _ _ _ _ _ Vl (pv 3) (pv 3)) (@Zg _ _ _ _ _ _ _ _ Vl Zz (pv 3))) (@Za _ _ _ _ _ _ _ Z8 (pv 0) Zz (fun _ _=>rfl))) Zz) rfl (by trivial)) (@Zj _ _ _ _ _ (@Zk _ 3 _ _ _ _ _ sc_law_draw.nd rfl (by trivial) (@Zg _ _ _ _ _ _ _ _ Vi (@Zg _ _ _ _ _ _ _ _ Yx (@Zg _ _ _ _ _ _ _ _ Yx (@Zg _ _ _ _ _ _ _ _ Vl (pv 3) (pv 3)) (@Zg _ _ _ _ _ _ _ _ Vl Zz (pv 3))) (@Za _ _ _ _ _ _ _ Z8 (pv 0) Zz (fun _ _=>rfl))) Zz) rfl (by trivial)) (@Zv _ _ _ (@Zc _ _ _ _ (@Zg _ _ _ _ _ _ _ _ Vi (pv 3) (pv 1))))))))), ?_⟩
 refine ⟨_,rfl,l,_,_,_,rfl,rfl,Yc.of hH,rfl,_,_,rfl,rfl,_,rfl,l,_,_,_,rfl,rfl,hH,rfl, ?_⟩
 have h2:Yc K (Z6 H l (.lst [.int a,.int b,.int c,.int (d+1)])) l [.int a,.int b,.int c,.int (d+1)]:=Yc.of Zq
 refine ⟨_,rfl,l,_,_,_,rfl,rfl,h2,rfl,_,_,rfl,rfl,_,rfl, ?_⟩
 refine ite2 (fun c1=>?_) (fun c1=>?_)
 ·refine ⟨_,rfl,l,_,_,_,rfl,rfl,h2,rfl,_,rfl,_,_,rfl,rfl,hm, ?_⟩
  refine ⟨_,rfl,l,_,_,_,rfl,rfl,h2,rfl,_,rfl,_,_,rfl,rfl,⟨hm,hm2⟩,_,rfl,l,_,_,_,rfl,rfl,Zq,rfl, ?_⟩
  refine ⟨_,rfl, ?_⟩
  rw [upd_upd]
  exact q (a % m) _ (Int.emod_nonneg _ (by omega)) (Int.emod_lt_of_pos _ hm) (step_upd _ _ _ _)
 ·refine ⟨_,rfl,l,_,_,_,rfl,rfl,h2,rfl,_,rfl,l,_,_,_,rfl,rfl,h2,rfl,_,_,rfl,rfl,.inl ⟨by decide,by decide⟩,_,_,rfl,rfl,_,rfl,l,_,_,_,rfl,rfl,h2,rfl,_,_,rfl,rfl,.inl ⟨by decide,by decide⟩,_,_,rfl,rfl,_,_,rfl,rfl,(by show (0:Int)<2147483629; decide), ?_⟩
  generalize hx1:(b+7919 * c+104729 * (d+1)) % 2147483629=x1
  have b1:0<=x1/\x1<2147483629:=by omega
  refine ⟨_,rfl,_,rfl,_,_,rfl,rfl,.inl ⟨by omega,by omega⟩,_,rfl,_,_,rfl,rfl,.inl ⟨by decide,by decide⟩,_,_,rfl,rfl,_,rfl,l,_,_,_,rfl,rfl,h2,rfl,_,_,rfl,rfl,_,_,rfl,rfl,(by show (0:Int)<2147483629; decide), ?_⟩
  generalize hx2:(x1 * x1+48271 * x1+c) % 2147483629=x2
  have b2:0<=x2/\x2<2147483629:=by omega
  refine ⟨_,rfl,_,rfl,_,_,rfl,rfl,.inl ⟨by omega,by omega⟩,_,rfl,_,_,rfl,rfl,.inl ⟨by decide,by decide⟩,_,_,rfl,rfl,_,rfl,l,_,_,_,rfl,rfl,h2,rfl,_,_,rfl,rfl,_,_,rfl,rfl,(by show (0:Int)<2147483587; decide), ?_⟩
  refine ⟨_,rfl,_,rfl,_,_,rfl,rfl,hm, ?_⟩
  exact q _ _ (Int.emod_nonneg _ (by omega)) (Int.emod_lt_of_pos _ hm) (step_upd _ _ _ _)
theorem ok_number (F:Uf K "_law_number" "_law_number" s_law_number f fd) (m:Bn mg) (g_law_draw:Fn P w K mg base 1 "_law_draw" ["_law_feed_here","_law_many"] spDraw):Yj P w K mg base CX0 2 f fd ["_law_feed_here"] (spIntD fun n=>1<=n/\n<=999):=by
 refine F.ok sc_law_number (fun vs H Q E h=>?_) (fun cdv A outer s H vs Q E hr h=>?_)
 ·obtain ⟨l,rfl,_⟩:=h
  rfl
 obtain ⟨l,rfl,fe,q⟩:=h
 refine ⟨_,(@Zj _ _ _ _ _ (@Zk _ 1 _ _ _ _ _ sc_law_number.nd rfl (by trivial) (@Yf _ _ _ _ (@Zw _ _ _ _ _ Zz (@Zw _ _ _ _ _ Zz (@Zw _ _ _ _ _ Zz (@Zw _ _ _ _ _ Zz (@Zw _ _ _ _ _ Zz (@Zw _ _ _ _ _ Zz (@Zw _ _ _ _ _ Zz (@Zw _ _ _ _ _ Zz (@Zw _ _ _ _ _ Zz (@Zw _ _ _ _ _ Zz (@Zw _ _ _ _ _ Zz (@Zw _ _ _ _ _ Zz (@Zw _ _ _ _ _ Zz Zx rfl) rfl) rfl) rfl) rfl) rfl) rfl) rfl) rfl) rfl) rfl) rfl) rfl)) rfl (by trivial)) (@Zj _ _ _ _ _ (@Ze _ _ _ _ _ _ _ _ (@Zm _ _ _ _ _ _ _ _ Ym (@Zy _ _ _ _ _ _ _ _ _ _ g_law_draw hr.m rfl (@Zw _ _ _ _ _ (pv 0) (@Zw _ _ _ _ _ Zz Zx rfl) rfl) (by decide) rfl rfl) Zz (Zd _)) (@Zv _ _ _ (@Zc _ _ _ _ (@Zg _ _ _ _ _ _ _ _ Yx Zz (@Zy _ _ _ _ _ _ _ _ _ _ g_law_draw hr.m rfl (@Zw _ _ _ _ _ (pv 0) (@Zw _ _ _ _ _ Zz Zx rfl) rfl) (by decide) rfl rfl)))) Zl) (@Zv _ _ _ (@Zc _ _ _ _ (@Za _ _ _ _ _ _ _ Z8 (pv 1) (@Zy _ _ _ _ _ _ _ _ _ _ g_law_draw hr.m rfl (@Zw _ _ _ _ _ (pv 0) (@Zw _ _ _ _ _ Zz Zx rfl) rfl) (by decide) rfl rfl) (fun _ _=>rfl)))))), ?_⟩
 refine ⟨(sz 13),fun p hp=>?_⟩
 have np:=fe.ne hp
 have t0:=(Y7.refl fe).lay (o:=.lst ([1,2,9,10,99,100,127,128,129,255,256,998,999].map V.int)) fe hp
 refine ⟨_,rfl,l,3,rfl,t0.feed,by decide,by decide,fun r1 H1 _ _ t1=>⟨rfl,_,rfl, ?_⟩⟩
 refine ite2 (fun c=>?_) (fun c=>?_)
 ·exact ⟨_,rfl,l,999,rfl,t1.feed,by decide,by decide,fun r2 H2 a2 b2 t2=>⟨_,_,rfl,rfl,q _ H2 ⟨by omega,by omega⟩ ((t0.trans t1).trans t2)⟩⟩
 ·refine ⟨_,rfl,_,rfl,l,13,rfl,t1.feed,by decide,by decide,fun r2 H2 a b t2=>?_⟩
  obtain ⟨n,mn,hn⟩:=pickI [1,2,9,10,99,100,127,128,129,255,256,998,999] a b
  exact ⟨p,_,_,_,rfl,rfl,Yc.of (t2.keep _ _ np (t1.keep _ _ np Zq)),hn,q _ H2 (by simp only [List.mem_cons,List.not_mem_nil,or_false] at mn; omega) ((t0.trans t1).trans t2)⟩
theorem ok_whole (F:Uf K "_law_whole" "_law_whole" s_law_whole f fd) (m:Bn mg) (g_law_draw:Fn P w K mg base 1 "_law_draw" ["_law_feed_here","_law_many"] spDraw):Yj P w K mg base CX0 2 f fd ["_law_feed_here"] (spIntD fun n=>-1000000000000000000<=n/\n<=1000000000000000000):=by
 refine F.ok sc_law_whole (fun vs H Q E h=>?_) (fun cdv A outer s H vs Q E hr h=>?_)
 ·obtain ⟨l,rfl,_⟩:=h
  rfl
 obtain ⟨l,rfl,fe,q⟩:=h
 refine ⟨_,(@Zj _ _ _ _ _ (@Zk _ 1 _ _ _ _ _ sc_law_whole.nd rfl (by trivial) (@Yf _ _ _ _ (Zf Zz (Zf Zz (Zf (@pe_un _ _ _ _ _ _ un_neg Zz) (Zf Zz (Zf Zz (Zf (@pe_un _ _ _ _ _ _ un_neg Zz) (Zf (@pe_un _ _ _ _ _ _ un_neg Zz) (Zf Zz (Zf Zz (Zf Zz (Zf (@pe_un _ _ _ _ _ _ un_neg Zz) (Zf (@pe_un _ _ _ _ _ _ un_neg Zz) (Zf (@Zg _ _ _ _ _ _ _ _ op_pow Zz Zz) (Zf (@pe_un _ _ _ _ _ _ un_neg (@Zg _ _ _ _ _ _ _ _ op_pow Zz Zz)) (Zf (@Zg _ _ _ _ _ _ _ _ Y9 (@Zg _ _ _ _ _ _ _ _ op_pow Zz Zz) Zz) (Zf (@Zg _ _ _ _ _ _ _ _ Y9 Zz (@Zg _ _ _ _ _ _ _ _ op_pow Zz Zz)) Zx rfl) rfl) rfl) rfl) rfl) rfl) rfl) rfl) rfl) rfl) rfl) rfl) rfl) rfl) rfl) rfl)) rfl (by trivial)) (@Zj _ _ _ _ _ (@Ze _ _ _ _ _ _ _ _ (@Zm _ _ _ _ _ _ _ _ Ym (@Zy _ _ _ _ _ _ _ _ _ _ g_law_draw hr.m rfl (Zf (pv 0) (Zf Zz Zx rfl) rfl) (by decide) rfl rfl) Zz (Zd _)) (@Zv _ _ _ (@Zc _ _ _ _ (@Za _ _ _ _ _ _ _ Z8 (pv 1) (@Zy _ _ _ _ _ _ _ _ _ _ g_law_draw hr.m rfl (Zf (pv 0) (Zf Zz Zx rfl) rfl) (by decide) rfl rfl) (fun _ _=>rfl)))) Zl) (@Zj _ _ _ _ _ (@Zk _ 2 _ _ _ _ _ sc_law_whole.nd rfl (by trivial) (@Zg _ _ _ _ _ _ _ _ Vi (@Zg _ _ _ _ _ _ _ _ Vl (@Zy _ _ _ _ _ _ _ _ _ _ g_law_draw hr.m rfl (Zf (pv 0) (Zf (@Zg _ _ _ _ _ _ _ _ op_pow Zz Zz) Zx rfl) rfl) (by decide) rfl rfl) (@Za _ _ _ _ _ _ _ Z8 (@Yf _ _ _ _ (Zf Zz (Zf (@Zg _ _ _ _ _ _ _ _ op_pow Zz Zz) (Zf (@Zg _ _ _ _ _ _ _ _ op_pow Zz Zz) Zx rfl) rfl) rfl)) (@Zy _ _ _ _ _ _ _ _ _ _ g_law_draw hr.m rfl (Zf (pv 0) (Zf Zz Zx rfl) rfl) (by decide) rfl rfl) (fun _ _=>rfl))) (@Zg _ _ _ _ _ _ _ _ Yx (@Zg _ _ _ _ _ _ _ _ op_pow Zz Zz) Zz)) rfl (by trivial)) (@Zv _ _ _ (@Zc _ _ _ _ (@Za _ _ _ _ _ _ _ Z8 (@Yf _ _ _ _ (Zf (pv 2) (Zf (@pe_un _ _ _ _ _ _ un_neg (pv 2)) Zx rfl) rfl)) (@Zy _ _ _ _ _ _ _ _ _ _ g_law_draw hr.m rfl (Zf (pv 0) (Zf Zz Zx rfl) rfl) (by decide) rfl rfl) (fun _ _=>rfl))))))), ?_⟩
 have pw:CPow 10 18:=⟨by decide,by decide,by decide⟩
 refine ⟨_,rfl,_,rfl,_,rfl,_,rfl,_,rfl,_,_,rfl,rfl,pw,_,_,rfl,rfl,pw,_,rfl,_,_,rfl,rfl,pw,_,_,rfl,rfl,_,_,rfl,rfl,pw,_,_,rfl,rfl,(sz 16),fun p hp=>?_⟩
 have np:=fe.ne hp
 have t0:=(Y7.refl fe).lay (o:=.lst ([0,1, -1,63,64, -64, -65,127,8191,8192, -8192, -8193,(10:Int) ^ (18:Int).toNat, -((10:Int) ^ (18:Int).toNat),(10:Int) ^ (18:Int).toNat - 1,1 - (10:Int) ^ (18:Int).toNat].map V.int)) fe hp
 refine ⟨_,rfl,l,3,rfl,t0.feed,by decide,by decide,fun r1 H1 _ _ t1=>⟨rfl,_,rfl, ?_⟩⟩
 refine ite2 (fun c=>?_) (fun c=>?_)
 ·refine ⟨_,rfl,_,rfl,l,16,rfl,t1.feed,by decide,by decide,fun r2 H2 a b t2=>?_⟩
  obtain ⟨n,mn,hn⟩:=pickI [0,1, -1,63,64, -64, -65,127,8191,8192, -8192, -8193,(10:Int) ^ (18:Int).toNat, -((10:Int) ^ (18:Int).toNat),(10:Int) ^ (18:Int).toNat - 1,1 - (10:Int) ^ (18:Int).toNat] a b
  exact ⟨p,_,_,_,rfl,rfl,Yc.of (t2.keep _ _ np (t1.keep _ _ np Zq)),hn,q _ H2 (by rw [show (10:Int) ^ (18:Int).toNat=1000000000000000000 from rfl] at mn; simp only [List.mem_cons,List.not_mem_nil,or_false] at mn; omega) ((t0.trans t1).trans t2)⟩
 ·have t01:=t0.trans t1
  refine ⟨_,rfl,_,_,rfl,rfl,⟨by decide,by decide,by decide⟩,l,10 ^ (9:Int).toNat,rfl,t1.feed,by decide,by decide,fun r2 H2 a2 b2 t2=>?_⟩
  have t02:=t01.trans t2
  refine ⟨_,_,rfl,rfl,⟨by decide,by decide,by decide⟩,_,_,rfl,rfl,⟨by decide,by decide,by decide⟩,(sz 3),fun p2 hp2=>?_⟩
  have t03:=t02.lay (o:=.lst ([1,(10:Int) ^ (5:Int).toNat,(10:Int) ^ (9:Int).toNat].map V.int)) fe hp2
  have np2:=t02.feed.ne hp2
  refine ⟨_,rfl,l,3,rfl,t03.feed,by decide,by decide,fun r3 H3 a3 b3 t3=>?_⟩
  obtain ⟨n3,m3,hn3⟩:=pickI [1,(10:Int) ^ (5:Int).toNat,(10:Int) ^ (9:Int).toNat] a3 b3
  have b2':r2<1000000000:=b2
  refine ⟨p2,_,_,_,rfl,rfl,Yc.of (t3.keep _ _ np2 Zq),hn3,_,_,rfl,rfl,.inl ⟨by omega,by omega⟩,_,_,rfl,rfl,pw,_,_,rfl,rfl,_,_,rfl,rfl,(by show (0:Int)<10 ^ (18:Int).toNat+1; decide), ?_⟩
  have t04:=t03.trans t3
  refine ⟨_,rfl,_,rfl,_,rfl,(sz 2),fun p4 hp4=>?_⟩
  have t05:=t04.lay (o:=.lst ([r2 * n3 % ((10:Int) ^ (18:Int).toNat+1), -(r2 * n3 % ((10:Int) ^ (18:Int).toNat+1))].map V.int)) fe hp4
  have np4:=t04.feed.ne hp4
  refine ⟨_,rfl,l,2,rfl,t05.feed,by decide,by decide,fun r5 H5 a5 b5 t5=>?_⟩
  obtain ⟨n5,m5,hn5⟩:=pickI [r2 * n3 % ((10:Int) ^ (18:Int).toNat+1), -(r2 * n3 % ((10:Int) ^ (18:Int).toNat+1))] a5 b5
  exact ⟨p4,_,_,_,rfl,rfl,Yc.of (t5.keep _ _ np4 Zq),hn5,q _ H5 (by rw [show (10:Int) ^ (18:Int).toNat=1000000000000000000 from rfl] at m5; simp only [List.mem_cons,List.not_mem_nil,or_false] at m5; omega) (t05.trans t5)⟩
theorem joins {c A:Prop} [Decidable c] {D:Ends} {σ:L2.St} {H:Hp} (J:L2.St->Hp->Prop) (hJ:∀ σ H,J σ H->D.nx σ H) (h1:c->(∀ σ H,J σ H->D.nx σ H)->A) (h2:¬ c->J σ H):if c then A else tNext D σ H :=
 ite2 (fun c'=>h1 c' hJ) fun c'=>hJ _ _ (h2 c')
theorem ok_name (F:Uf K "_law_name" "_law_name" s_law_name f fd) (m:Bn mg) (g_law_draw:Fn P w K mg base 1 "_law_draw" ["_law_feed_here","_law_many"] spDraw):Yj P w K mg base CX0 2 f fd ["_law_feed_here"] (spStrD nameOk):=by
 refine F.ok sc_law_name (fun vs H Q E h=>?_) (fun cdv A outer s H vs Q E hr h=>?_)
 ·obtain ⟨l,rfl,_⟩:=h
  rfl
 obtain ⟨l,rfl,fe,q⟩:=h
 refine ⟨_,(@Zj _ _ _ _ _ (@Zk _ 1 _ _ _ _ _ sc_law_name.nd rfl (by trivial) (@Yf _ _ _ _ (Zf Zp (Zf Zp (Zf Zp (Zf Zp (Zf Zp (Zf Zp (Zf Zp (Zf Zp (Zf Zp (Zf Zp Zx rfl) rfl) rfl) rfl) rfl) rfl) rfl) rfl) rfl) rfl)) rfl (by trivial)) (@Zj _ _ _ _ _ (@Ze _ _ _ _ _ _ _ _ (@Zm _ _ _ _ _ _ _ _ Ym (@Zy _ _ _ _ _ _ _ _ _ _ g_law_draw hr.m rfl (Zf (pv 0) (Zf Zz Zx rfl) rfl) (by decide) rfl rfl) Zz (Zd _)) (@Zv _ _ _ (@Zc _ _ _ _ (@Za _ _ _ _ _ _ _ Z8 (pv 1) (@Zy _ _ _ _ _ _ _ _ _ _ g_law_draw hr.m rfl (Zf (pv 0) (Zf Zz Zx rfl) rfl) (by decide) rfl rfl) (fun _ _=>rfl)))) Zl) (@Zj _ _ _ _ _ (@Zk _ 2 _ _ _ _ _ sc_law_name.nd rfl (by trivial) Zp rfl (by trivial)) (@Zv _ _ _ (@Zc _ _ _ _ (@pe_bm _ _ _ _ _ _ _ _ _ _ _ _ PySem.F.plainAttrs_str PySem.F.slot_str_join PySem.F.type_str_join mt_join Zp (Zf (@pe_compI _ N_law_name (Zb s_law_name) ["_law_k","_law_letters","_law_feed_here"] [none,some 2,some 0] _ _ _ _ _ _ _ _ _ _ rfl (@Yi _ _ _ _ _ _ rfl m.range (Zf (@Zg _ _ _ _ _ _ _ _ Yx Zz (@Zy _ _ _ _ _ _ _ _ _ _ g_law_draw hr.m rfl (Zf (pv 0) (Zf Zz Zx rfl) rfl) (by decide) rfl rfl)) Zx rfl) (by trivial)) ⟨rfl,rfl,by decide +kernel,by decide +kernel⟩ (fun _ _ _=>(@Zo _ 0 _ _ (show List.Nodup (["_law_k","_law_letters","_law_feed_here"]:List Str) from by decide +kernel) rfl (Or.inl rfl) (by trivial))) (fun _ _ _=>pts_nil) (fun _ _ _=>(@Za _ _ _ _ _ _ _ ix_str (pv 1) (@Zy _ _ _ _ _ _ _ _ _ _ g_law_draw hr.m rfl (Zf (pv 2) (Zf Zz Zx rfl) rfl) (by decide) rfl rfl) (fun _ _=>rfl))) (by trivial)) Zx rfl) (by trivial) (by trivial) (by trivial) (by trivial) (by trivial))))))), ?_⟩
 refine ⟨(sz 10),fun p hp=>?_⟩
 have np:=fe.ne hp
 have t0:=(Y7.refl fe).lay (o:=.lst ((["a","ab","abc","z","zz","abcdefgh","zzzzzzzz","b","ba","row"]:List Str).map V.str)) fe hp
 refine ⟨_,rfl,l,2,rfl,t0.feed,by decide,by decide,fun r1 H1 _ _ t1=>⟨rfl,_,rfl, ?_⟩⟩
 have t01:=t0.trans t1
 refine ite2 (fun c=>?_) (fun c=>?_)
 ·refine ⟨_,rfl,_,rfl,l,10,rfl,t1.feed,by decide,by decide,fun r2 H2 a b t2=>?_⟩
  obtain ⟨n,mn,hn⟩:=pickS ["a","ab","abc","z","zz","abcdefgh","zzzzzzzz","b","ba","row"] a b
  exact ⟨p,_,_,_,rfl,rfl,Yc.of (t2.keep _ _ np (t1.keep _ _ np Zq)),hn,q _ H2 (words_ok n mn) (t01.trans t2)⟩
 ·refine ⟨rfl,_,rfl,l,8,rfl,t1.feed,by decide,by decide,fun r2 H2 a2 b2 t2=>?_⟩
  refine ⟨_,_,rfl,rfl,_,rfl,by omega,by omega,fun Dd fp sx hD=>?_⟩
  have t02:=t01.trans t2
  have nD:=t02.feed.ne hD
  have hD0:=t02.free fe hD
  refine comp_range (n:=(1+r2).toNat) (fun i ys σ H5=>∃ (ss:List Str) (o:Option V),ys=ss.map V.str/\OnesP (fun c=>97<=c/\c<=122) ss/\ss.length=i/\σ=[o,some (.str "abcdefghijklmnopqrstuvwxyz"),some (.ref l)]/\Y7 l H H5/\H5 Dd=some (.lst ys))
   ⟨[],_,rfl,fun x mx=>(List.not_mem_nil mx).elim,rfl,rfl,t02.put nD hD0,Zq⟩ ?_ ?_ ?_
  ·rintro i ys σ H5 hi ⟨ss,o,rfl,o1,l1,rfl,t5,h5⟩
   exact h5
  ·rintro i ys σ H5 hi ⟨ss,o,rfl,o1,l1,rfl,t5,h5⟩
   refine nameT ?_
   refine ⟨_,rfl,_,rfl,l,26,rfl,t5.feed,by decide,by decide,fun r6 H6 a6 b6 t6=>?_⟩
   obtain ⟨c,mc,hc⟩:=pickC (Str.cps "abcdefghijklmnopqrstuvwxyz").toList a6 (by rw [show (Str.cps "abcdefghijklmnopqrstuvwxyz").toList.length=26 by decide +kernel]; exact b6)
   refine ⟨_,_,_,rfl,rfl,(by decide +kernel),hc,t6.keep _ _ nD h5, ?_,ss++[⟨#[c]⟩],_, ?_,ones_more o1 (let_ok c mc), ?_,rfl,(t5.trans t6).put nD hD0,Zq⟩
   ·rw [List.length_map]; exact Vz (by omega)
   ·rw [List.map_append]; rfl
   ·rw [List.length_append,List.length_singleton]; omega
  ·rintro ys σ H5 ⟨ss,o,rfl,o1,l1,rfl,t5,h5⟩
   refine ⟨_,Dd,ss,rfl,rfl,Yc.of h5, ?_,q _ H5 ⟨?_, ?_, ?_⟩ t5⟩
   ·rw [ones_sum o1]
    show ss.length+ss.length * 0<=16777216
    omega
   ·rw [join_len o1]; omega
   ·rw [join_len o1]; omega
   ·exact join_codes o1
theorem ok_text (F:Uf K "_law_text" "_law_text" s_law_text f fd) (m:Bn mg) (g_law_draw:Fn P w K mg base 1 "_law_draw" ["_law_feed_here","_law_many"] spDraw):Yj P w K mg base CX0 2 f fd ["_law_feed_here"] (spStrD textOk):=by
 refine F.ok Vu (fun vs H Q E h=>?_) (fun cdv A outer s H vs Q E hr h=>?_)
 ·obtain ⟨l,rfl,_⟩:=h
  rfl
 obtain ⟨l,rfl,fe,q⟩:=h
 refine ⟨_,(@Zj _ _ _ _ _ (@Zk _ 1 _ _ _ _ _ Vu.nd rfl (by trivial) (@Zy _ _ _ _ _ _ _ _ _ _ g_law_draw hr.m rfl (Zf (pv 0) (Zf Zz Zx rfl) rfl) (by decide) rfl rfl) rfl (by trivial)) (@Zj _ _ _ _ _ (@Ze _ _ _ _ _ _ _ _ (@Zm _ _ _ _ _ _ _ _ Ym (@Zy _ _ _ _ _ _ _ _ _ _ g_law_draw hr.m rfl (Zf (pv 0) (Zf Zz Zx rfl) rfl) (by decide) rfl rfl) Zz (Zd _)) (@Zv _ _ _ (@Zk _ 1 _ _ _ _ _ Vu.nd rfl (by trivial) (@Za _ _ _ _ _ _ _ Z8 (@Yf _ _ _ _ (Zf Zz (Zf Zz (Zf Zz (Zf Zz (Zf Zz (Zf Zz Zx rfl) rfl) rfl) rfl) rfl) rfl)) (@Zy _ _ _ _ _ _ _ _ _ _ g_law_draw hr.m rfl (Zf (pv 0) (Zf Zz Zx rfl) rfl) (by decide) rfl rfl) (fun _ _=>rfl)) rfl (by trivial))) Zl) (@Zj _ _ _ _ _ (@Zk _ 2 _ _ _ _ _ Vu.nd rfl (by trivial) (@Zg _ _ _ _ _ _ _ _ Vy (@Zg _ _ _ _ _ _ _ _ Vy (@Zg _ _ _ _ _ _ _ _ Vy Zp Zp) Zp) Zp) rfl (by trivial)) (@Zj _ _ _ _ _ (@Zk _ 2 _ _ _ _ _ Vu.nd rfl (by trivial) (@Zg _ _ _ _ _ _ _ _ Vy (pv 2) Zp) rfl (by trivial)) (@Zj _ _ _ _ _ (@Zk _ 3 _ _ _ _ _ Vu.nd rfl (by trivial) (@Zy _ _ _ _ _ _ _ _ _ _ g_law_draw hr.m rfl (Zf (pv 0) (Zf Zz Zx rfl) rfl) (by decide) rfl rfl) rfl (by trivial)) (@Zj _ _ _ _ _ (@Zk _ 4 _ _ _ _ _ Vu.nd rfl (by trivial) (@Zg _ _ _ _ _ _ _ _ Yx Zz (@Zy _ _ _ _ _ _ _ _ _ _ g_law_draw hr.m rfl (Zf (pv 0) (Zf Zz Zx rfl) rfl) (by decide) rfl rfl)) rfl (by trivial)) (@Zv _ _ _ (@Zc _ _ _ _ (@pe_bm _ _ _ _ _ _ _ _ _ _ _ _ PySem.F.plainAttrs_str PySem.F.slot_str_join PySem.F.type_str_join mt_join Zp (Zf (@pe_compI _ N_law_text (Zb s_law_text) ["_law_k","_law_signs","_law_start","_law_step"] [none,some 2,some 3,some 4] _ _ _ _ _ _ _ _ _ _ rfl (@Yi _ _ _ _ _ _ rfl m.range (Zf (pv 1) Zx rfl) (by trivial)) ⟨rfl,rfl,by decide +kernel,by decide +kernel⟩ (fun _ _ _=>(@Zo _ 0 _ _ (show List.Nodup (["_law_k","_law_signs","_law_start","_law_step"]:List Str) from by decide +kernel) rfl (Or.inl rfl) (by trivial))) (fun _ _ _=>pts_nil) (fun _ _ _=>(@Za _ _ _ _ _ _ _ ix_str (pv 1) (@Zg _ _ _ _ _ _ _ _ Vi (@Zg _ _ _ _ _ _ _ _ Yx (pv 2) (@Zg _ _ _ _ _ _ _ _ Vl (pv 3) (pv 0))) Zz) (fun _ _=>rfl))) (by trivial)) Zx rfl) (by trivial) (by trivial) (by trivial) (by trivial) (by trivial)))))))))), ?_⟩
 refine ⟨_,rfl,l,5,rfl,fe,by decide,by decide,fun r1 H1 a1 b1 t1=>?_⟩
 refine ⟨_,rfl,l,12,rfl,t1.feed,by decide,by decide,fun r2 H2 _ _ t2=>⟨rfl,_,rfl, ?_⟩⟩
 have t02:=t1.trans t2
 refine joins (fun σ H3=>∃ many:Int,0<=many/\many<=200/\σ=[some (.ref l),some (.int many),none,none,none]/\Y7 l H H3) ?_ (fun c k=>?_) (fun c=>⟨r1,a1,by omega,rfl,t02⟩)
 ·rintro σ H3 ⟨many,m0,m1,rfl,t3⟩
  refine ⟨_,_,rfl,rfl,(by decide +kernel),_,_,rfl,rfl,(by decide +kernel),_,_,rfl,rfl,(by decide +kernel), ?_⟩
  refine ⟨_,rfl,_,_,rfl,rfl,(by decide +kernel), ?_⟩
  generalize hz : ((((" !#$&'()*+,-./0123456789:;<=>?\x40[]^_{|}~" : Str) ++ ("\"" : Str)) ++ ("\\" : Str)) ++ ("`" : Str)) ++ ("ABCDEFGHIJKLMNOPQRSTUVWXYZabcdefghijklmnopqrstuvwxyz" : Str) = z
  have zl:z.cps.toList.length=94:=by rw [<-hz]; decide +kernel
  have zl2:z.length<=sizeLine:=by rw [<-hz]; decide +kernel
  have zg:∀ c∈z.cps.toList,gdC c:=by rw [<-hz]; exact signs_ok
  refine ⟨_,rfl,l,94,rfl,t3.feed,by decide,by decide,fun r4 H4 a4 b4 t4=>?_⟩
  refine ⟨_,rfl,l,93,rfl,t4.feed,by decide,by decide,fun r5 H5 a5 b5 t5=>⟨_,_,rfl,rfl, ?_⟩⟩
  have t06:=(t3.trans t4).trans t5
  refine ⟨rfl,_,rfl,many,rfl,by omega,by omega,fun Dd fp sx hD=>?_⟩
  have nD:=t06.feed.ne hD
  have hD0:=t06.free fe hD
  refine comp_range (n:=many.toNat) (fun i ys σ H5=>∃ (ss:List Str) (o:Option V),ys=ss.map V.str/\OnesP gdC ss/\ss.length=i/\σ=[o,some (.str z),some (.int r4),some (.int (1+r5))]/\Y7 l H H5/\H5 Dd=some (.lst ys))
   ⟨[],_,rfl,fun x mx=>(List.not_mem_nil mx).elim,rfl,rfl,t06.put nD hD0,Zq⟩ ?_ ?_ ?_
  ·rintro i ys σ H5 hi ⟨ss,o,rfl,o1,l1,rfl,t5,h5⟩
   exact h5
  ·rintro i ys σ H5 hi ⟨ss,o,rfl,o1,l1,rfl,t5,h5⟩
   refine nameT ?_
   obtain ⟨c,mc,hc⟩:=pickC z.cps.toList (r:=(r4+(1+r5) * (0+(i:Int))) % 94) (by omega) (by rw [zl]; omega)
   refine ⟨_,rfl,_,rfl,_,rfl,_,rfl,_,_,rfl,rfl,.inl ⟨by omega,by omega⟩,_,_,rfl,rfl,_,_,rfl,rfl,(by show (0:Int)<94; decide),_,_,_,rfl,rfl,zl2,hc,h5, ?_,ss++[⟨#[c]⟩],_, ?_,ones_more o1 (zg c mc), ?_,rfl,t5.put nD hD0,Zq⟩
   ·rw [List.length_map]; exact Vz (by omega)
   ·rw [List.map_append]; rfl
   ·rw [List.length_append,List.length_singleton]; omega
  ·rintro ys σ H5 ⟨ss,o,rfl,o1,l1,rfl,t5,h5⟩
   refine ⟨_,Dd,ss,rfl,rfl,Yc.of h5, ?_,q _ H5 ⟨?_, ?_⟩ t5⟩
   ·rw [ones_sum o1]
    show ss.length+ss.length * 0<=16777216
    omega
   ·rw [join_len o1]; omega
   ·exact join_codes o1
 ·refine ⟨(sz 6),fun p hp=>?_⟩
  have t03:=t02.lay (o:=.lst ([126,127,128,129,199,200].map V.int)) fe hp
  have np:=t02.feed.ne hp
  refine ⟨_,rfl,l,6,rfl,t03.feed,by decide,by decide,fun r3 H3 a3 b3 t3=>?_⟩
  obtain ⟨n3,m3,hn3⟩:=pickI [126,127,128,129,199,200] a3 b3
  refine ⟨p,_,_,_,rfl,rfl,Yc.of (t3.keep _ _ np Zq),hn3,k _ _ ⟨n3, ?_, ?_,rfl,t03.trans t3⟩⟩
  ·simp only [List.mem_cons,List.not_mem_nil,or_false] at m3
   omega
  ·simp only [List.mem_cons,List.not_mem_nil,or_false] at m3
   omega
end
abbrev s_law_item:Stmt:=top 49
abbrev N_law_item:List Str:=["_law_feed_here","_law_deep","_law_kind","_law_many","_law_parts","_law_keys"]
theorem Uk:Zr N_law_item ["_law_feed_here","_law_deep"] (Zb s_law_item):=by trivial
def Gd:Good:=⟨fun n=>-1000000000000000000<=n/\n<=1000000000000000000,textOk,nameOk,fun n=>1<=n/\n<=999,fun ks=>(∀ x∈ks,nameOk x)/\adj ltS ks,fun ks=>(∀ n∈ks,1<=n/\n<=999)/\ks.Pairwise (· < ·)⟩
def spItem (K:W.Frag) (G:Good) (d:Nat):Sp:=fun vs H Q _=>∃ l:Addr,vs=[.ref l,.int d]/\Feed H l/\∀ (r:V) (e:D) (H':Hp),Itm G (d+1) e->Y1 K H' e r->Y7 l H H'->Q r H'
def spI (K:W.Frag) (G:Good):Nat->Sp
 | 0=>fun _ _ _ _=>False
 | d+1=>spItem K G d
theorem pairs_take:∀ as bs:List D,Ya as bs=Ya as (bs.take as.length)
 | [],bs=>by simp [Ya]
 | a::as,[]=>by simp
 | a::as,b::bs=>by
  simp only [Ya,List.length_cons,List.take_succ_cons]
  rw [<-pairs_take as bs]
theorem areS {K:W.Frag} {H:Hp}:∀ xs:List Str,Zi K H (xs.map D.str) (xs.map V.str)
 | []=>rfl
 | x::xs=>⟨.str x,xs.map V.str,rfl,rfl,areS xs⟩
theorem areI {K:W.Frag} {H:Hp}:∀ xs:List Int,Zi K H (xs.map D.int) (xs.map V.int)
 | []=>rfl
 | x::xs=>⟨.int x,xs.map V.int,rfl,rfl,areI xs⟩
theorem nodup_inr {zs:List Str} (h:(zs.map (Sum.inr:Str->Key)).Nodup):zs.Nodup:=by
 induction zs with
 | nil=>exact .nil
 | cons z zs ih =>
  have h':=List.nodup_cons.mp h
  exact List.nodup_cons.mpr ⟨fun m=>h'.1 (List.mem_map.mpr ⟨z,m,rfl⟩),ih h'.2⟩
theorem nodup_inl {zs:List Int} (h:(zs.map (Sum.inl:Int->Key)).Nodup):zs.Nodup:=by
 induction zs with
 | nil=>exact .nil
 | cons z zs ih =>
  have h':=List.nodup_cons.mp h
  exact List.nodup_cons.mpr ⟨fun m=>h'.1 (List.mem_map.mpr ⟨z,m,rfl⟩),ih h'.2⟩
theorem all_inr:∀ {us:List Key} {ss:List Str},(∀ x,x∈us->x∈ss.map Sum.inr)->∃ zs:List Str,us=zs.map Sum.inr
 | [],_,_=>⟨[],rfl⟩
 | u::us,ss,h=>by
  obtain ⟨s,_,rfl⟩:=List.mem_map.mp (h u List.mem_cons_self)
  obtain ⟨zs,rfl⟩:=all_inr (us:=us) fun x mx=>h x (List.mem_cons_of_mem _ mx)
  exact ⟨s::zs,rfl⟩
theorem all_inl:∀ {us:List Key} {ss:List Int},(∀ x,x∈us->x∈ss.map Sum.inl)->∃ zs:List Int,us=zs.map Sum.inl
 | [],_,_=>⟨[],rfl⟩
 | u::us,ss,h=>by
  obtain ⟨s,_,rfl⟩:=List.mem_map.mp (h u List.mem_cons_self)
  obtain ⟨zs,rfl⟩:=all_inl (us:=us) fun x mx=>h x (List.mem_cons_of_mem _ mx)
  exact ⟨s::zs,rfl⟩
section
variable {P:Program} {w:World} {K:W.Frag} {mg:Str->Option Value} {base:Heap} {f:Addr} {fd:FuncData}
theorem ok_item (F:Uf K "_law_item" "_law_item" s_law_item f fd) (m:Bn mg) (bd:Vc K fd ["_law_feed_here","_law_deep"] []) (mf:mg "_law_item" = some (.ref f)) (g_law_draw:Fn P w K mg base 1 "_law_draw" ["_law_feed_here","_law_many"] spDraw)
  (g_law_name:Fn P w K mg base 2 "_law_name" ["_law_feed_here"] (spStrD nameOk)) (g_law_text:Fn P w K mg base 2 "_law_text" ["_law_feed_here"] (spStrD textOk)) (g_law_number:Fn P w K mg base 2 "_law_number" ["_law_feed_here"] (spIntD fun n=>1<=n/\n<=999)) (g_law_whole:Fn P w K mg base 2 "_law_whole" ["_law_feed_here"] (spIntD fun n=>-1000000000000000000<=n/\n<=1000000000000000000)) :
  ∀ d,Yj P w K mg base CX0 (d+2) f fd ["_law_feed_here","_law_deep"] (spI K Gd d)
 | 0=>⟨fun vs H Q E h=>h.elim,fun A outer s H args us vs Q E _ _ _ _ h=>h.elim⟩
 | d+1=>by
  have g_law_item:Fn P w K mg base (d+2) "_law_item" ["_law_feed_here","_law_deep"] (spI K Gd d):=⟨f,fd,ok_item F m bd mf g_law_draw g_law_name g_law_text g_law_number g_law_whole d,bd,F.kp,mf⟩
  refine F.ok Uk (fun vs H Q E h=>?_) (fun cdv A outer s H vs Q E hr h=>?_)
  ·obtain ⟨l,rfl,_⟩:=h
   rfl
  obtain ⟨l,rfl,fe,q⟩:=h
  refine ⟨_,(@Zj _ _ _ _ _ (@Zk _ 2 _ _ _ _ _ Uk.nd rfl (by trivial) (@Zy _ _ _ _ _ _ _ _ _ _ g_law_draw hr.m rfl (Zf (pv 0) (Zf Zz Zx rfl) rfl) (by decide) rfl rfl) rfl (by trivial)) (@Zj _ _ _ _ _ (@Ze _ _ _ _ _ _ _ _ (@PW.pt _ _ _ (@pw_or _ _ _ _ _ _ _ (@Zm _ _ _ _ _ _ _ _ Ym (pv 1) Zz (Zd _)) (@pw_or1 _ _ _ _ (@Zm _ _ _ _ _ _ _ _ op_lt (pv 2) Zz (Zd _))))) (@Zj _ _ _ _ _ (@Ze _ _ _ _ _ _ _ _ (@Zm _ _ _ _ _ _ _ _ Ym (@Zg _ _ _ _ _ _ _ _ Vi (pv 2) Zz) Zz (Zd _)) (@Zv _ _ _ (@Zc _ _ _ _ (@Zn _ _ _ _ _ (Zf Zp (Zf (@Zy _ _ _ _ _ _ _ _ _ _ g_law_whole hr.m rfl (Zf (pv 0) Zx rfl) (by decide) rfl rfl) Zx rfl) rfl)))) Zl) (@Zv _ _ _ (@Zc _ _ _ _ (@Zn _ _ _ _ _ (Zf Zp (Zf (@Zy _ _ _ _ _ _ _ _ _ _ g_law_text hr.m rfl (Zf (pv 0) Zx rfl) (by decide) rfl rfl) Zx rfl) rfl))))) Zl) (@Zj _ _ _ _ _ (@Ze _ _ _ _ _ _ _ _ (@Zm _ _ _ _ _ _ _ _ Ym (pv 2) Zz (Zd _)) (@Zv _ _ _ (@Zc _ _ _ _ (@Zn _ _ _ _ _ (Zf Zp (Zf (@Zy _ _ _ _ _ _ _ _ _ _ g_law_number hr.m rfl (Zf (pv 0) Zx rfl) (by decide) rfl rfl) (Zf (@Zy _ _ _ _ _ _ _ _ _ _ g_law_item hr.m rfl (Zf (pv 0) (Zf (@Zg _ _ _ _ _ _ _ _ Y9 (pv 1) Zz) Zx rfl) rfl) (by decide) rfl rfl) Zx rfl) rfl) rfl)))) Zl) (@Zj _ _ _ _ _ (@Zk _ 3 _ _ _ _ _ Uk.nd rfl (by trivial) (@Zy _ _ _ _ _ _ _ _ _ _ g_law_draw hr.m rfl (Zf (pv 0) (Zf Zz Zx rfl) rfl) (by decide) rfl rfl) rfl (by trivial)) (@Zj _ _ _ _ _ (@ps_setCompI _ 4 N_law_item (Zb s_law_item) ["_law_k","_law_feed_here","_law_deep"] [none,some 0,some 1] _ _ _ _ _ _ _ _ _ _ _ _ _ Uk.nd rfl (by trivial) rfl (@Yi _ _ _ _ _ _ rfl m.range (Zf (pv 3) Zx rfl) (by trivial)) ⟨rfl,rfl,by decide +kernel,by decide +kernel⟩ (fun _ _ _=>(@Zo _ 0 _ _ (show List.Nodup (["_law_k","_law_feed_here","_law_deep"]:List Str) from by decide +kernel) rfl (Or.inl rfl) (by trivial))) (fun _ _ _=>pts_nil) (fun _ _ _=>(@Zy _ _ _ _ _ _ _ _ _ _ g_law_item hr.m rfl (Zf (pv 1) (Zf (@Zg _ _ _ _ _ _ _ _ Y9 (pv 2) Zz) Zx rfl) rfl) (by decide) rfl rfl)) (by trivial) (by trivial) (by trivial)) (@Zj _ _ _ _ _ (@Ze _ _ _ _ _ _ _ _ (@Zm _ _ _ _ _ _ _ _ op_lt (pv 2) Zz (Zd _)) (@Zv _ _ _ (@Zc _ _ _ _ (@Zn _ _ _ _ _ (Zf Zp (Zf (@Yn _ _ _ _ _ _ _ _ _ Yu rfl m.tuple b_tuple (Zf (pv 4) Zx rfl) (by trivial) (by trivial) (by trivial) (by trivial)) Zx rfl) rfl)))) Zl) (@Zj _ _ _ _ _ (@Ze _ _ _ _ _ _ _ _ (@Zm _ _ _ _ _ _ _ _ op_lt (pv 2) Zz (Zd _)) (@Zj _ _ _ _ _ (@Zk _ 5 _ _ _ _ _ Uk.nd rfl (by trivial) (@Z9 _ _ _ _ _ _ _ _ _ (call_sortedS rfl) rfl m.sorted b_sorted (Zf (@Yn _ _ _ _ _ _ _ _ _ (call_setK rfl) rfl m.set b_set (Zf (@pe_compI _ N_law_item (Zb s_law_item) ["_law_k","_law_feed_here"] [none,some 0] _ _ _ _ _ _ _ _ _ _ rfl (@Yi _ _ _ _ _ _ rfl m.range (Zf (pv 3) Zx rfl) (by trivial)) ⟨rfl,rfl,by decide +kernel,by decide +kernel⟩ (fun _ _ _=>(@Zo _ 0 _ _ (show List.Nodup (["_law_k","_law_feed_here"]:List Str) from by decide +kernel) rfl (Or.inl rfl) (by trivial))) (fun _ _ _=>pts_nil) (fun _ _ _=>(@Zy _ _ _ _ _ _ _ _ _ _ g_law_name hr.m rfl (Zf (pv 1) Zx rfl) (by decide) rfl rfl)) (by trivial)) Zx rfl) (by trivial) (by trivial) (by trivial) (by trivial)) Zx rfl) (by decide) (by decide) rfl rfl) rfl (by trivial)) (@Zv _ _ _ (@Zc _ _ _ _ (@Zn _ _ _ _ _ (Zf Zp (Zf (@Yn _ _ _ _ _ _ _ _ _ Yu rfl m.tuple b_tuple (Zf (@pe_listZip _ _ _ _ _ _ _ _ rfl rfl m.list rfl m.zip (Zf (pv 5) (Zf (pv 4) Zx rfl) rfl) (by trivial) (by trivial) (by trivial)) Zx rfl) (by trivial) (by trivial) (by trivial) (by trivial)) Zx rfl) rfl))))) Zl) (@Zj _ _ _ _ _ (@Zk _ 5 _ _ _ _ _ Uk.nd rfl (by trivial) (@Z9 _ _ _ _ _ _ _ _ _ (call_sortedI rfl) rfl m.sorted b_sorted (Zf (@Yn _ _ _ _ _ _ _ _ _ (call_setK rfl) rfl m.set b_set (Zf (@pe_compI _ N_law_item (Zb s_law_item) ["_law_k","_law_feed_here"] [none,some 0] _ _ _ _ _ _ _ _ _ _ rfl (@Yi _ _ _ _ _ _ rfl m.range (Zf (pv 3) Zx rfl) (by trivial)) ⟨rfl,rfl,by decide +kernel,by decide +kernel⟩ (fun _ _ _=>(@Zo _ 0 _ _ (show List.Nodup (["_law_k","_law_feed_here"]:List Str) from by decide +kernel) rfl (Or.inl rfl) (by trivial))) (fun _ _ _=>pts_nil) (fun _ _ _=>(@Zy _ _ _ _ _ _ _ _ _ _ g_law_number hr.m rfl (Zf (pv 1) Zx rfl) (by decide) rfl rfl)) (by trivial)) Zx rfl) (by trivial) (by trivial) (by trivial) (by trivial)) Zx rfl) (by decide) (by decide) rfl rfl) rfl (by trivial)) (@Zv _ _ _ (@Zc _ _ _ _ (@Zn _ _ _ _ _ (Zf Zp (Zf (@Yn _ _ _ _ _ _ _ _ _ Yu rfl m.tuple b_tuple (Zf (@pe_listZip _ _ _ _ _ _ _ _ rfl rfl m.list rfl m.zip (Zf (pv 5) (Zf (pv 4) Zx rfl) rfl) (by trivial) (by trivial) (by trivial)) Zx rfl) (by trivial) (by trivial) (by trivial) (by trivial)) Zx rfl) rfl)))))))))))), ?_⟩
  refine ⟨_,rfl,l,9,rfl,fe,by decide,by decide,fun kind H1 k0 k9 t1=>?_⟩
  refine ⟨_,rfl,rfl,_,rfl, ?_⟩
  refine ite2 (fun c=>?_) (fun c=>?_)
  ·refine ⟨_,rfl,_,_,rfl,rfl,(by show (0:Int)<2; decide),rfl,_,rfl, ?_⟩
   refine ite2 (fun c9=>?_) (fun c9=>?_)
   ·refine ⟨_,rfl,l,rfl,t1.feed,fun n H2 pn t2=>⟨(sz 2),fun p hp=>?_⟩⟩
    exact q _ (.tup [.str "whole",.int n]) _ (.inl ⟨n,rfl,pn⟩) ⟨p,_,rfl,Yg.of Zq,Zi.two rfl rfl⟩ ((t1.trans t2).lay fe hp)
   ·refine ⟨_,rfl,l,rfl,t1.feed,fun x H2 px t2=>⟨(sz 2),fun p hp=>?_⟩⟩
    exact q _ (.tup [.str "text",.str x]) _ (.inr (.inl ⟨x,rfl,px⟩)) ⟨p,_,rfl,Yg.of Zq,Zi.two rfl rfl⟩ ((t1.trans t2).lay fe hp)
  ·refine ⟨_,rfl,_,_,rfl,rfl,_,rfl, ?_⟩
   refine ite2 (fun c2=>?_) (fun c2=>?_)
   ·refine ⟨_,rfl,_,_,rfl,rfl,(by show (0:Int)<2; decide),rfl,_,rfl, ?_⟩
    refine ite2 (fun c9=>?_) (fun c9=>?_)
    ·refine ⟨_,rfl,l,rfl,t1.feed,fun n H2 pn t2=>⟨(sz 2),fun p hp=>?_⟩⟩
     exact q _ (.tup [.str "whole",.int n]) _ (.inl ⟨n,rfl,pn⟩) ⟨p,_,rfl,Yg.of Zq,Zi.two rfl rfl⟩ ((t1.trans t2).lay fe hp)
    ·refine ⟨_,rfl,l,rfl,t1.feed,fun x H2 px t2=>⟨(sz 2),fun p hp=>?_⟩⟩
     exact q _ (.tup [.str "text",.str x]) _ (.inr (.inl ⟨x,rfl,px⟩)) ⟨p,_,rfl,Yg.of Zq,Zi.two rfl rfl⟩ ((t1.trans t2).lay fe hp)
   ·have d0:d≠0:=fun z=>by
     subst z
     exact c rfl
    obtain ⟨d',rfl⟩:∃ d',d=d'+1:=⟨d - 1,by omega⟩
    have ed:((d'+1:Nat):Int) - 1=(d':Nat):=by omega
    refine ⟨_,rfl,rfl,_,rfl, ?_⟩
    refine ite2 (fun c3=>?_) (fun c3=>?_)
    ·
     refine ⟨_,rfl,l,rfl,t1.feed,fun n H2 pn t2=>?_⟩
     refine ⟨_,rfl,_,rfl,_,_,rfl,rfl,l, ?_,t2.feed,fun r e H3 ie de t3=>?_⟩
     ·rw [<-ed]; rfl
     refine ⟨(sz 3),fun p hp=>?_⟩
     have t13:=(t1.trans t2).trans t3
     refine q _ (.tup [.str "arm",.int n,e]) _ (.inr (.inr (.inl ⟨n,e,rfl,pn,ie⟩))) ⟨p,_,rfl,Yg.of Zq,_,_,rfl,rfl,_,_,rfl,rfl,Zi.one (Y1.up (up_put hp) _ _ ie.noL de)⟩ (t13.lay fe hp)
    ·refine ⟨_,rfl,l,4,rfl,t1.feed,by decide,by decide,fun many H2 m0 m4 t2=>?_⟩
     have t12:=t1.trans t2
     refine ⟨_,rfl,many,rfl,by omega,by omega,fun Dd fp sx hD=>?_⟩
     have nD:=t12.feed.ne hD
     have hD0:=t12.free fe hD
     refine comp_range (n:=many.toNat) (fun i ys σ H5=>∃ (es:List D) (o:Option V),σ=[o,some (.ref l),some (.int (d'+1:Nat))]/\(∀ e∈es,Itm Gd (d'+1) e)/\es.length=i/\Zi K H5 es ys/\Y7 l H H5/\H5 Dd=some (.lst ys))
      ⟨[],_,rfl,(fun x mx=>(List.not_mem_nil mx).elim),rfl,rfl,t12.put nD hD0,Zq⟩ ?_ ?_ ?_
     ·rintro i ys σ H5 hi ⟨es,o,rfl,ie,le,ae,t5,h5⟩
      exact h5
     ·rintro i ys σ H5 hi ⟨es,o,rfl,ie,le,ae,t5,h5⟩
      refine nameT ?_
      refine ⟨_,rfl,_,rfl,_,_,rfl,rfl,l, ?_,t5.feed,fun r e H6 ir dr t6=>?_⟩
      ·rw [<-ed]; rfl
      have h6:=t6.keep _ _ nD h5
      refine ⟨h6, ?_,es++[e],_,rfl, ?_, ?_,Zi.append (Zi.up ((t6.up t5.feed).trans (up_set h6)) _ _ (Itm.noLs ie) ae) (Zi.one (Y1.up (up_set h6) _ _ ir.noL dr)),(t5.trans t6).put nD hD0,Zq⟩
      ·rw [<-ae.length]; exact Vz (by omega)
      ·intro x mx
       rcases List.mem_append.mp mx with mx | mx
       ·exact ie x mx
       ·rw [List.mem_singleton.mp mx]; exact ir
      ·rw [List.length_append,List.length_singleton]; omega
     ·rintro ys σ5 H5 ⟨es,o5,rfl,ie,le,ae,t5,h5⟩
      have ly:=ae.length
      have l3:es.length<=3:=by omega
      refine ⟨_,rfl,_,_,rfl,rfl,_,rfl, ?_⟩
      refine ite2 (fun c4=>?_) (fun c4=>?_)
      ·
       refine ⟨_,rfl,Dd,ys,rfl,.inl ⟨Yc.of h5,fun p1 hp1=>?_⟩⟩
       refine ⟨(sz 2),fun p hp=>?_⟩
       have t6:=t5.lay (o:=.tup ys) fe hp1
       refine q _ (.tup [.str "row",.tup es]) _ (.inr (.inr (.inr (.inl ⟨es,rfl,l3,ie⟩)))) ⟨p,_,rfl,Yg.of Zq,Zi.two rfl ⟨p1,ys,rfl,up_put hp _ _ (Yg.of Zq),Zi.up ((up_put hp1).trans (up_put hp)) _ _ (Itm.noLs ie) ae⟩⟩ (t6.lay fe hp)
      ·refine ⟨_,rfl,_,_,rfl,rfl,_,rfl, ?_⟩
       refine ite2 (fun c5=>?_) (fun c5=>?_)
       ·
        refine ⟨_,rfl,many,rfl,by omega,by omega,fun D2 fp2 sx2 hD2=>?_⟩
        have nD2:=t5.feed.ne hD2
        have hD20:=t5.free fe hD2
        refine comp_range (n:=many.toNat) (fun i zs σ H7=>∃ (ss:List Str) (o:Option V),σ=[o,some (.ref l)]/\zs=ss.map V.str/\ss.length=i/\(∀ x∈ss,nameOk x)/\Y7 l H5 H7/\H7 D2=some (.lst zs))
         ⟨[],_,rfl,rfl,rfl,(fun x mx=>(List.not_mem_nil mx).elim),(Y7.refl t5.feed).put nD2 hD2,Zq⟩ ?_ ?_ ?_
        ·rintro i zs σ H7 hi ⟨ss,o,rfl,rfl,ls,ps,t7,h7⟩
         exact h7
        ·rintro i zs σ H7 hi ⟨ss,o,rfl,rfl,ls,ps,t7,h7⟩
         refine nameT ?_
         refine ⟨_,rfl,l,rfl,t7.feed,fun x H8 px t8=>?_⟩
         refine ⟨t8.keep _ _ nD2 h7, ?_,ss++[x],_,rfl, ?_, ?_, ?_,(t7.trans t8).put nD2 hD2,Zq⟩
         ·rw [List.length_map]; exact Vz (by omega)
         ·rw [List.map_append]; rfl
         ·rw [List.length_append,List.length_singleton]; omega
         ·intro y my
          rcases List.mem_append.mp my with my | my
          ·exact ps y my
          ·rw [List.mem_singleton.mp my]; exact px
        ·rintro zs σ7 H7 ⟨ss,o7,rfl,rfl,ls,ps,t7,h7⟩
         refine ⟨D2,ss.map Sum.inr,rfl,Yc.of (by rw [h7,List.map_map]; rfl), ?_,fun S us hS nu mu lu=>?_⟩
         ·rw [List.length_map]; show ss.length+1<scanBound; exact Nat.lt_of_le_of_lt (show ss.length+1<=10 by omega) (by decide)
         obtain ⟨zs,rfl⟩:=all_inr (ss:=ss) fun x mx=>(mu x).mp mx
         have lz:zs.length<=ss.length:=by simpa using lu
         refine ⟨S,zs,rfl,Zq,by omega,fun L ns hL pm sd=>?_⟩
         have t8:=t7.lay (o:=SetHO P w S (zs.map Sum.inr)) t5.feed hS
         have t9:=t8.lay (o:=.lst (ns.map V.str)) t5.feed hL
         have h9:Z6 (Z6 H7 S (SetHO P w S (zs.map Sum.inr))) L (.lst (ns.map V.str)) Dd=some (.lst ys):=t9.keep _ _ nD h5
         have a9:=Zi.up (K:=K) (t9.up t5.feed) es ys (Itm.noLs ie) ae
         have ln:ns.length<=es.length:=by rw [pm.length_eq]; omega
         refine ⟨_,rfl,_,rfl,L,Dd,_,_,rfl,Yc.of Zq,Yc.of h9,fun Z as H10 hZ s10 h10 at10=>?_⟩
         have a10:Zi K H10 (Ya (ns.map D.str) (es.take ns.length)) (as.map V.ref):=by
          have:=Zi.pairs (K:=K) at10 (areS ns) (Zi.up s10.up _ _ (Itm.noLs ie) a9)
          rw [pairs_take,List.length_map] at this
          exact this
         refine ⟨Z,_,rfl,.inl ⟨Yc.of h10,fun p1 hp1=>?_⟩⟩
         refine ⟨(sz 2),fun p hp=>?_⟩
         have t10:=(t5.trans t9).same s10
         have t11:=t10.lay (o:=.tup (as.map V.ref)) fe hp1
         have ie':∀ e∈es.take ns.length,Itm Gd (d'+1) e:=fun e me=>ie e (List.mem_of_mem_take me)
         have np:noLs (Ya (ns.map D.str) (es.take ns.length))=true:=noLs_pairs (fun d m=>by obtain ⟨x,_,rfl⟩:=List.mem_map.mp m; rfl) fun e m=>(ie' e m).noL
         refine q _ (.tup [.str "map",.tup (Ya (ns.map D.str) (es.take ns.length))]) _ (.inr (.inr (.inr (.inr (.inl ⟨ns,es.take ns.length,rfl, ?_, ?_,⟨fun x mx=>?_, ?_⟩,ie'⟩))))) ⟨p,_,rfl,Yg.of Zq,Zi.two rfl ⟨p1,_,rfl,up_put hp _ _ (Yg.of Zq),Zi.up ((up_put hp1).trans (up_put hp)) _ _ np a10⟩⟩ (t11.lay fe hp)
         ·rw [List.length_take]; omega
         ·rw [List.length_take]; omega
         ·obtain ⟨y,my,ey⟩:=List.mem_map.mp ((mu (Sum.inr x)).mp (List.mem_map.mpr ⟨x,pm.mem_iff.mp mx,rfl⟩))
          cases ey
          exact ps x my
         ·exact sortedS_adj sd (pm.nodup_iff.mpr (nodup_inr nu))
       ·
        refine ⟨_,rfl,many,rfl,by omega,by omega,fun D2 fp2 sx2 hD2=>?_⟩
        have nD2:=t5.feed.ne hD2
        have hD20:=t5.free fe hD2
        refine comp_range (n:=many.toNat) (fun i zs σ H7=>∃ (ss:List Int) (o:Option V),σ=[o,some (.ref l)]/\zs=ss.map V.int/\ss.length=i/\(∀ x∈ss,1<=x/\x<=999)/\Y7 l H5 H7/\H7 D2=some (.lst zs))
         ⟨[],_,rfl,rfl,rfl,(fun x mx=>(List.not_mem_nil mx).elim),(Y7.refl t5.feed).put nD2 hD2,Zq⟩ ?_ ?_ ?_
        ·rintro i zs σ H7 hi ⟨ss,o,rfl,rfl,ls,ps,t7,h7⟩
         exact h7
        ·rintro i zs σ H7 hi ⟨ss,o,rfl,rfl,ls,ps,t7,h7⟩
         refine nameT ?_
         refine ⟨_,rfl,l,rfl,t7.feed,fun x H8 px t8=>?_⟩
         refine ⟨t8.keep _ _ nD2 h7, ?_,ss++[x],_,rfl, ?_, ?_, ?_,(t7.trans t8).put nD2 hD2,Zq⟩
         ·rw [List.length_map]; exact Vz (by omega)
         ·rw [List.map_append]; rfl
         ·rw [List.length_append,List.length_singleton]; omega
         ·intro y my
          rcases List.mem_append.mp my with my | my
          ·exact ps y my
          ·rw [List.mem_singleton.mp my]; exact px
        ·rintro zs σ7 H7 ⟨ss,o7,rfl,rfl,ls,ps,t7,h7⟩
         refine ⟨D2,ss.map Sum.inl,rfl,Yc.of (by rw [h7,List.map_map]; rfl), ?_,fun S us hS nu mu lu=>?_⟩
         ·rw [List.length_map]; show ss.length+1<scanBound; exact Nat.lt_of_le_of_lt (show ss.length+1<=10 by omega) (by decide)
         obtain ⟨zs,rfl⟩:=all_inl (ss:=ss) fun x mx=>(mu x).mp mx
         have lz:zs.length<=ss.length:=by simpa using lu
         refine ⟨S,zs,rfl,Zq,by omega,fun L ns hL pm sd=>?_⟩
         have t8:=t7.lay (o:=SetHO P w S (zs.map Sum.inl)) t5.feed hS
         have t9:=t8.lay (o:=.lst (ns.map V.int)) t5.feed hL
         have h9:Z6 (Z6 H7 S (SetHO P w S (zs.map Sum.inl))) L (.lst (ns.map V.int)) Dd=some (.lst ys):=t9.keep _ _ nD h5
         have a9:=Zi.up (K:=K) (t9.up t5.feed) es ys (Itm.noLs ie) ae
         have ln:ns.length<=es.length:=by rw [pm.length_eq]; omega
         refine ⟨_,rfl,_,rfl,L,Dd,_,_,rfl,Yc.of Zq,Yc.of h9,fun Z as H10 hZ s10 h10 at10=>?_⟩
         have a10:Zi K H10 (Ya (ns.map D.int) (es.take ns.length)) (as.map V.ref):=by
          have:=Zi.pairs (K:=K) at10 (areI ns) (Zi.up s10.up _ _ (Itm.noLs ie) a9)
          rw [pairs_take,List.length_map] at this
          exact this
         refine ⟨Z,_,rfl,.inl ⟨Yc.of h10,fun p1 hp1=>?_⟩⟩
         refine ⟨(sz 2),fun p hp=>?_⟩
         have t10:=(t5.trans t9).same s10
         have t11:=t10.lay (o:=.tup (as.map V.ref)) fe hp1
         have ie':∀ e∈es.take ns.length,Itm Gd (d'+1) e:=fun e me=>ie e (List.mem_of_mem_take me)
         have np:noLs (Ya (ns.map D.int) (es.take ns.length))=true:=noLs_pairs (fun d m=>by obtain ⟨x,_,rfl⟩:=List.mem_map.mp m; rfl) fun e m=>(ie' e m).noL
         refine q _ (.tup [.str "rec",.tup (Ya (ns.map D.int) (es.take ns.length))]) _ (.inr (.inr (.inr (.inr (.inr ⟨ns,es.take ns.length,rfl, ?_, ?_,⟨fun x mx=>?_, ?_⟩,ie'⟩))))) ⟨p,_,rfl,Yg.of Zq,Zi.two rfl ⟨p1,_,rfl,up_put hp _ _ (Yg.of Zq),Zi.up ((up_put hp1).trans (up_put hp)) _ _ np a10⟩⟩ (t11.lay fe hp)
         ·rw [List.length_take]; omega
         ·rw [List.length_take]; omega
         ·obtain ⟨y,my,ey⟩:=List.mem_map.mp ((mu (Sum.inl x)).mp (List.mem_map.mpr ⟨x,pm.mem_iff.mp mx,rfl⟩))
          cases ey
          exact ps x my
         ·exact sortedI_adj sd (pm.nodup_iff.mpr (nodup_inl nu))
end
end K05
namespace K03
def Lf:Nat->Int->List Int
 | 0,n=>[n]
 | k+1,n=>if 128<=n then (n % 128+128)::Lf k (n / 128) else [n]
theorem Lf_small (k:Nat) {n:Int} (h:n<128):Lf k n=[n]:=by
 cases k with
 | zero=>rfl
 | succ k=>simp only [Lf]; rw [if_neg (by omega)]
theorem Lf_big (k:Nat) {n:Int} (h:128<=n):Lf (k+1) n=(n % 128+128)::Lf k (n / 128):=by
 simp only [Lf]; rw [if_pos h]
theorem pow_step (k:Nat):(128:Int) ^ (k+1+1)=128 * 128 ^ (k+1):=by rw [Int.pow_succ (128:Int) (k+1),Int.mul_comm]
theorem div_lt {n:Int} {k:Nat} (h:n<128 ^ (k+1+1)):n / 128<128 ^ (k+1):=by
 rw [pow_step] at h
 generalize (128:Int) ^ (k+1)=p at h ⊢
 omega
theorem more {n:Int} {k:Nat} (h:128<=n) (h2:n<128 ^ (k+1)):∃ j,k=j+1:=by
 cases k with
 | zero=>simp at h2; omega
 | succ k=>exact ⟨k,rfl⟩
theorem Lf_bytes:∀ (k:Nat) (n:Int),0<=n->n<128 ^ (k+1)->∀ b∈Lf k n,0<=b/\b<=255
 | 0,n,h0,h1,b,hb=>by
  simp only [Lf,List.mem_singleton] at hb
  simp at h1
  omega
 | k+1,n,h0,h1,b,hb=>by
  by_cases h:128<=n
  ·rw [Lf_big k h] at hb
   rcases List.mem_cons.mp hb with e | hb
   ·omega
   ·exact Lf_bytes k (n / 128) (by omega) (div_lt h1) b hb
  ·rw [Lf_small _ (by omega)] at hb
   simp only [List.mem_singleton] at hb
   omega
theorem Lf_len:∀ (k:Nat) (n:Int),(Lf k n).length<=k+1
 | 0,n=>by simp [Lf]
 | k+1,n=>by
  simp only [Lf]
  split
  ·have:=Lf_len k (n / 128)
   simp only [List.length_cons]; omega
  ·simp
theorem p20:(128:Int) ^ (19+1)=1393796574908163946345982392040522594123776:=by decide
end K03
namespace K05
open PySem PySem.Spec PyProof.Rows L2 K01
inductive Lb where
 | no | key (x:Str) | num (n:Int)
inductive IT where
 | whole (n:Int) | text (x:Str) | arm (n:Int) (e:IT) | lst (s:Nat) (ls:List Lb) (es:List IT)
def srt:Nat->Str
 | 0 => "row"
 | 1 => "map"
 | _ => "rec"
def prtD:Lb->D->D
 | .no,d=>d
 | .key x,d=>.tup [.str x,d]
 | .num n,d=>.tup [.int n,d]
def Y5:List Lb->List D->List D
 | l::ls,d::ds=>prtD l d::Y5 ls ds
 | _,_=>[]
mutual
def toD:IT->D
 | .whole n=>.tup [.str "whole",.int n]
 | .text x=>.tup [.str "text",.str x]
 | .arm n e=>.tup [.str "arm",.int n,toD e]
 | .lst s ls es=>.tup [.str (srt s),.tup (Y5 ls (toDs es))]
def toDs:List IT->List D
 | []=>[]
 | e::es=>toD e::toDs es
end
def codes (x:Str):List Int:=x.cps.toList.map fun c:Nat=>(c:Int)
def Lg (n:Int):List Int:=K03.Lf 19 n
def fold (n:Int):Int:=if 0<=n then 2 * n else -2 * n - 1
def sgB (x:Str):List Int:=Lg x.length++codes x
def lbB:Lb->List Int
 | .no=>[]
 | .key x=>sgB x
 | .num n=>Lg n
mutual
def Ub:IT->List Int
 | .whole n=>0::Lg (fold n)
 | .text x=>1::sgB x
 | .arm n e=>5::(Lg n++Ub e)
 | .lst s ls es=>((s:Int)+2)::(Lg (Yt ls es).length++Yt ls es)
def Yt:List Lb->List IT->List Int
 | l::ls,e::es=>lbB l++Ub e++Yt ls es
 | _,_=>[]
end
mutual
def dpI:IT->Nat
 | .whole _=>1
 | .text _=>1
 | .arm _ e=>dpI e+1
 | .lst _ _ es=>dpIs es+1
def dpIs:List IT->Nat
 | []=>0
 | e::es=>max (dpI e) (dpIs es)
end
theorem dpI_mem:∀ {es:List IT} {e:IT},e∈es->dpI e<=dpIs es
 | a::es,e,m=>by
  rcases List.mem_cons.mp m with rfl | m
  ·simp only [dpIs]; omega
  ·have:=dpI_mem m
   simp only [dpIs]; omega
def GdL:Nat->List Lb->Prop
 | 0,ls=>∀ l∈ls,l=.no
 | 1,ls=>∃ ks:List Str,ls=ks.map Lb.key/\(∀ x∈ks,nameOk x)/\adj ltS ks
 | _,ls=>∃ ks:List Int,ls=ks.map Lb.num/\(∀ n∈ks,1<=n/\n<=999)/\ks.Pairwise (· < ·)
mutual
def GdI:IT->Prop
 | .whole n=>-1000000000000000000<=n/\n<=1000000000000000000
 | .text x=>textOk x
 | .arm n e=>1<=n/\n<=999/\GdI e
 | .lst s ls es=>s<=2/\ls.length=es.length/\GdL s ls/\GdIs es
def GdIs:List IT->Prop
 | []=>True
 | e::es=>GdI e/\GdIs es
end
theorem GdIs_all:∀ {es:List IT},GdIs es ↔ ∀ e∈es,GdI e
 | []=>⟨fun _ t m=>(List.not_mem_nil m).elim,fun _=>trivial⟩
 | a::ts=>by
  constructor
  ·rintro ⟨h1,h2⟩ t m
   rcases List.mem_cons.mp m with rfl | m
   ·exact h1
   ·exact GdIs_all.mp h2 t m
  ·intro h
   exact ⟨h a List.mem_cons_self,GdIs_all.mpr fun t m=>h t (List.mem_cons_of_mem _ m)⟩
theorem V7:∀ es:List IT,toDs es=es.map toD
 | []=>rfl
 | d::ds=>by simp only [toDs,List.map_cons,V7 ds]
theorem prtDs_len:∀ {ls:List Lb} {ds:List D},ls.length=ds.length->(Y5 ls ds).length=ds.length
 | [],[],_=>rfl
 | l::ls,d::ds,h=>by simp only [Y5,List.length_cons,prtDs_len (Nat.succ.inj h)]
mutual
theorem Vq:∀ it:IT,noL (toD it)=true
 | .whole _=>rfl
 | .text _=>rfl
 | .arm n e=>by simp only [toD,noL,noLs,Bool.true_and,Bool.and_true]; exact Vq e
 | .lst s ls es=>by
  simp only [toD,noL,noLs,Bool.true_and,Bool.and_true]
  exact Y8 ls es
theorem Y8:∀ (ls:List Lb) (es:List IT),noLs (Y5 ls (toDs es))=true
 | [],_=>by simp [Y5,noLs]
 | _::_,[]=>by simp [toDs,Y5,noLs]
 | l::ls,e::es=>by
  simp only [toDs,Y5,noLs,Bool.and_eq_true]
  refine ⟨?_,Y8 ls es⟩
  cases l with
  | no=>exact Vq e
  | key x=>simp only [prtD,noL,noLs,Bool.true_and,Bool.and_true]; exact Vq e
  | num n=>simp only [prtD,noL,noLs,Bool.true_and,Bool.and_true]; exact Vq e
end
theorem isD2 {K:W.Frag} {H:Hp} {a b:D} {v:V} (h:Y1 K H (.tup [a,b]) v):∃ p x y,v=.ref p/\Yg K H p [x,y]/\Y1 K H a x/\Y1 K H b y:=by
 obtain ⟨p,vs,rfl,q,x,r,rfl,i1,y,r2,rfl,i2,e⟩:=h
 have e':r2=[]:=e
 subst e'
 exact ⟨p,x,y,rfl,q,i1,i2⟩
theorem isD3 {K:W.Frag} {H:Hp} {a b c:D} {v:V} (h:Y1 K H (.tup [a,b,c]) v):∃ p x y z,v=.ref p/\Yg K H p [x,y,z]/\Y1 K H a x/\Y1 K H b y/\Y1 K H c z:=by
 obtain ⟨p,vs,rfl,q,x,r,rfl,i1,y,r2,rfl,i2,z,r3,rfl,i3,e⟩:=h
 have e':r3=[]:=e
 subst e'
 exact ⟨p,x,y,z,rfl,q,i1,i2,i3⟩
theorem Uy (n:Int):(Lg n).length<=20:=K03.Lf_len 19 n
theorem Lg_bytes {n:Int} (h0:0<=n) (h1:n<=10000000000000000000):∀ b∈Lg n,0<=b/\b<=255:=K03.Lf_bytes 19 n h0 (by rw [K03.p20]; omega)
theorem lt20 {n:Int} (h:n<=10000000000000000000):n<128 ^ (19+1):=by rw [K03.p20]; omega
theorem fold_nn (n:Int):0<=fold n:=by unfold fold; split <;> omega
theorem fold_le {n:Int} (h1:-1000000000000000000<=n) (h2:n<=1000000000000000000):fold n<=2000000000000000000:=by unfold fold; split <;> omega
theorem itm_list {k:Nat} {P:IT->Prop}:∀ {es:List D},(∀ e∈es,∃ it,toD it=e/\P it)->∃ its:List IT,its.map toD=es/\∀ i∈its,P i
 | [],_=>⟨[],rfl,fun _ m=>(List.not_mem_nil m).elim⟩
 | e::es,h=>by
  obtain ⟨i,e1,p1⟩:=h e List.mem_cons_self
  obtain ⟨is,e2,p2⟩:=itm_list (k:=k) (P:=P) (es:=es) fun x m=>h x (List.mem_cons_of_mem _ m)
  refine ⟨i::is,by simp [e1,e2],fun x m=>?_⟩
  rcases List.mem_cons.mp m with rfl | m
  ·exact p1
  ·exact p2 x m
def lnB:Nat->Nat
 | 0=>0
 | k+1=>300+3 * lnB k
theorem prt_no:∀ (n:Nat) (ds:List D),ds.length=n->Y5 (List.replicate n Lb.no) ds=ds
 | 0,[],_=>rfl
 | n+1,d::ds,h=>by simp only [List.replicate_succ,Y5,prtD,prt_no n ds (Nat.succ.inj h)]
theorem prt_key:∀ (ks:List Str) (ds:List D),Y5 (ks.map Lb.key) ds=Ya (ks.map D.str) ds
 | [],_=>by simp [Y5,Ya]
 | k::ks,[]=>by simp [Y5,Ya]
 | k::ks,d::ds=>by simp only [List.map_cons,Y5,prtD,Ya,prt_key ks ds]
theorem prt_num:∀ (ks:List Int) (ds:List D),Y5 (ks.map Lb.num) ds=Ya (ks.map D.int) ds
 | [],_=>by simp [Y5,Ya]
 | k::ks,[]=>by simp [Y5,Ya]
 | k::ks,d::ds=>by simp only [List.map_cons,Y5,prtD,Ya,prt_num ks ds]
theorem codes_len (x:Str):(codes x).length=x.length:=by unfold codes; rw [List.length_map]; exact Array.length_toList
theorem sgB_len (x:Str):(sgB x).length<=20+x.length:=by
 unfold sgB; rw [List.length_append,codes_len]; have:=Uy x.length; omega
def lbOk:Lb->Prop
 | .no=>True
 | .key x=>x.length<=8
 | .num _=>True
theorem lbB_len {l:Lb} (h:lbOk l):(lbB l).length<=28:=by
 cases l with
 | no=>exact Nat.zero_le _
 | key x=>have:=sgB_len x; have h':x.length<=8:=h; show (sgB x).length<=28; omega
 | num n=>have:=Uy n; show (Lg n).length<=28; omega
theorem byIs_len {n:Nat}:∀ {ls:List Lb} {es:List IT},(∀ l∈ls,lbOk l)->(∀ e∈es,(Ub e).length<=n)->(Yt ls es).length<=es.length * (28+n)
 | [],es,_,_=>by simp [Yt]
 | _::_,[],_,_=>by simp [Yt]
 | l::ls,e::es,h1,h2=>by
  have a:=lbB_len (h1 l List.mem_cons_self)
  have b:=h2 e List.mem_cons_self
  have c:=byIs_len (ls:=ls) (es:=es) (fun x m=>h1 x (List.mem_cons_of_mem _ m)) fun x m=>h2 x (List.mem_cons_of_mem _ m)
  simp only [Yt,List.length_append,List.length_cons,Nat.succ_mul]; omega
theorem dpIs_le:∀ {es:List IT} {n:Nat},(∀ t∈es,dpI t<=n)->dpIs es<=n
 | [],n,_=>Nat.zero_le _
 | t::ts,n,h=>by
  have h1:=h t List.mem_cons_self
  have h2:=dpIs_le (es:=ts) fun x m=>h x (List.mem_cons_of_mem _ m)
  simp only [dpIs]; omega
structure NiceI (it:IT) (k:Nat):Prop where
 gd:GdI it
 dp:dpI it<=k
 ln:(Ub it).length<=lnB k
theorem lst_nice {k:Nat} {s:Nat} {ls:List Lb} {es:List IT} (hs:s<=2) (hl:ls.length=es.length) (h3:es.length<=3) (g:GdL s ls) (lo:∀ l∈ls,lbOk l) (h:∀ e∈es,NiceI e k):NiceI (.lst s ls es) (k+1):=by
 refine ⟨⟨hs,hl,g,GdIs_all.mpr fun e m=>(h e m).gd⟩, ?_, ?_⟩
 ·have:=dpIs_le (es:=es) fun e m=>(h e m).dp
  simp only [dpI]; omega
 ·have a:=byIs_len (n:=lnB k) lo fun e m=>(h e m).ln
  have b:es.length * (28+lnB k)<=3 * (28+lnB k):=Nat.mul_le_mul_right _ h3
  have c:=Uy (Yt ls es).length
  simp only [Ub,List.length_cons,List.length_append,lnB]; omega
theorem itm_it:∀ (k:Nat) (d:D),Itm Gd k d->∃ it,toD it=d/\NiceI it k
 | 0,_,h=>h.elim
 | k+1,d,h=>by
  rcases h with ⟨n,rfl,g⟩ | ⟨x,rfl,g⟩ | ⟨n,e,rfl,g,i⟩ | ⟨es,rfl,l,i⟩ | ⟨ks,es,rfl,l1,l2,g,i⟩ | ⟨ks,es,rfl,l1,l2,g,i⟩
  ·refine ⟨.whole n,rfl,g,by simp only [dpI]; omega, ?_⟩
   have:=Uy (fold n)
   simp only [Ub,List.length_cons,lnB]; omega
  ·refine ⟨.text x,rfl,g,by simp only [dpI]; omega, ?_⟩
   have:=sgB_len x
   have:=g.1
   simp only [Ub,List.length_cons,lnB]; omega
  ·obtain ⟨it,e1,ni⟩:=itm_it k e i
   refine ⟨.arm n it,by simp only [toD,e1],⟨g.1,g.2,ni.gd⟩,by have:=ni.dp; simp only [dpI]; omega, ?_⟩
   have:=Uy n
   have:=ni.ln
   simp only [Ub,List.length_cons,List.length_append,lnB]; omega
  ·obtain ⟨its,e1,ni⟩:=itm_list (k:=k) (P:=fun it=>NiceI it k) fun e m=>itm_it k e (i e m)
   have el:its.length=es.length:=by rw [<-e1,List.length_map]
   refine ⟨.lst 0 (List.replicate es.length .no) its, ?_,lst_nice (by decide) (by rw [List.length_replicate,el]) (by omega) (fun l m=>List.eq_of_mem_replicate m) (fun l m=>by rw [List.eq_of_mem_replicate m]; trivial) ni⟩
   simp only [toD,srt]
   rw [V7,e1,prt_no _ _ rfl]
  ·obtain ⟨its,e1,ni⟩:=itm_list (k:=k) (P:=fun it=>NiceI it k) fun e m=>itm_it k e (i e m)
   have el:its.length=es.length:=by rw [<-e1,List.length_map]
   refine ⟨.lst 1 (ks.map Lb.key) its, ?_,lst_nice (by decide) (by rw [List.length_map,el]; exact l1) (by omega) ⟨ks,rfl,g.1,g.2⟩ (fun l m=>?_) ni⟩
   ·simp only [toD,srt]
    rw [V7,e1,prt_key]
   ·obtain ⟨x,mx,rfl⟩:=List.mem_map.mp m
    exact (g.1 x mx).2.1
  ·obtain ⟨its,e1,ni⟩:=itm_list (k:=k) (P:=fun it=>NiceI it k) fun e m=>itm_it k e (i e m)
   have el:its.length=es.length:=by rw [<-e1,List.length_map]
   refine ⟨.lst 2 (ks.map Lb.num) its, ?_,lst_nice (by decide) (by rw [List.length_map,el]; exact l1) (by omega) ⟨ks,rfl,g.1,g.2⟩ (fun l m=>?_) ni⟩
   ·simp only [toD,srt]
    rw [V7,e1,prt_num]
   ·obtain ⟨x,mx,rfl⟩:=List.mem_map.mp m
    trivial
end K05
namespace K05
open PySem PySem.Spec PyProof.Rows L2 K01 K03
abbrev s_long_of:Stmt:=top 20
abbrev N_long_of:List Str:=["n","figures"]
theorem sc_long_of:Zr N_long_of ["n"] (Zb s_long_of):=by trivial
abbrev s_packed:Stmt:=top 25
abbrev N_packed:List Str:=["item","backwards"]
theorem sc_packed:Zr N_packed ["item"] (Zb s_packed):=by trivial
abbrev s_pack_item:Stmt:=top 26
abbrev N_pack_item:List Str:=["backwards","item","sort","behind","part"]
theorem sc_pack_item:Zr N_pack_item ["backwards","item"] (Zb s_pack_item):=by trivial
abbrev s_pack_label:Stmt:=top 27
abbrev N_pack_label:List Str:=["backwards","sort","part"]
theorem sc_pack_label:Zr N_pack_label ["backwards","sort","part"] (Zb s_pack_label):=by trivial
abbrev s_pack_signs:Stmt:=top 28
abbrev N_pack_signs:List Str:=["backwards","text"]
theorem sc_pack_signs:Zr N_pack_signs ["backwards","text"] (Zb s_pack_signs):=by trivial
abbrev s_pack_bytes:Stmt:=top 29
abbrev N_pack_bytes:List Str:=["backwards","codes"]
theorem sc_pack_bytes:Zr N_pack_bytes ["backwards","codes"] (Zb s_pack_bytes):=by trivial
abbrev s_folded:Stmt:=top 30
abbrev N_folded:List Str:=["n"]
theorem sc_folded:Zr N_folded ["n"] (Zb s_folded):=by trivial
abbrev s_law_long:Stmt:=top 50
abbrev N_law_long:List Str:=["_law_n","_law_found"]
theorem sc_law_long:Zr N_law_long ["_law_n"] (Zb s_law_long):=by trivial
def small {n:Nat} (h:n<=1000):n<=sizeLine:=Nat.le_of_lt (Vz h)
def spLong:Sp:=fun vs H Q _=>∃ n:Int,vs=[.int n]/\0<=n/\n<128 ^ (19+1)/\∀ (r:Addr) (H':Hp),Zt H H'->H' r=some (.tup ((Lf 19 n).map V.int))->Q (.ref r) H'
def m0:L2.St->Nat
 | some (.int m)::_=>m.toNat
 | _=>0
structure Bk (b:Addr) (H H':Hp) (zs:List V):Prop where
 keep:∀ x o,x≠b->H x=some o->H' x=some o
 at':H' b=some (.lst zs)
theorem Bk.same {b:Addr} {H H1 H2:Hp} {zs:List V} (s:Zt H H1) (k:Bk b H1 H2 zs):Bk b H H2 zs:=⟨fun x o n h=>k.keep x o n (s _ _ h),k.at'⟩
theorem Bk.then {b:Addr} {H H1 H2:Hp} {zs:List V} (k:Bk b H H1 zs) (s:Zt H1 H2):Bk b H H2 zs:=⟨fun x o n h=>s _ _ (k.keep x o n h),s _ _ k.at'⟩
theorem Bk.trans {b:Addr} {H H1 H2:Hp} {ys zs:List V} (k:Bk b H H1 ys) (j:Bk b H1 H2 zs):Bk b H H2 zs:=⟨fun x o n h=>j.keep x o n (k.keep x o n h),j.at'⟩
theorem Bk.up {K:W.Frag} {b:Addr} {H H':Hp} {ys zs:List V} (k:Bk b H H' zs) (h:H b=some (.lst ys)):Up K H H':=fun c xs q=>by
 have ne:∀ u,H c=some u->(∀ ys,u≠.lst ys)->c≠b:=fun u e n z=>by
  rw [z,h] at e
  cases e
  exact n _ rfl
 rcases q with (q | ⟨u,q⟩) | q
 ·exact .inl (.inl (k.keep _ _ (ne _ q fun _ z=>nomatch z) q))
 ·exact .inl (.inr ⟨u,k.keep _ _ (ne _ q fun _ z=>nomatch z) q⟩)
 ·exact .inr q
def bv (l:List Int):List V:=l.map V.int
theorem Uv (a b:List Int):bv (a++b)=bv a++bv b:=List.map_append
theorem Zu (a:List Int):(bv a).length=a.length:=List.length_map _
def spBytes (K:W.Frag):Sp:=fun vs H Q _=>∃ b c ys zs,vs=[.ref b,.ref c]/\H b=some (.lst ys)/\(Yg K H c zs\/Yc K H c zs)/\ys.length+zs.length<=10000000/\∀ H',Bk b H H' (ys++zs.reverse)->Q .non H'
def spSigns:Sp:=fun vs H Q _=>∃ b x ys,vs=[.ref b,.str x]/\H b=some (.lst ys)/\x.length<=1000/\ys.length<=5000000/\∀ H',Bk b H H' (ys++(bv (sgB x)).reverse)->Q .non H'
def LbS (s:Nat) (l:Lb):Prop:=(s=0/\l=.no)\/(s=1/\∃ x,l=.key x/\nameOk x)\/(s=2/\∃ n,l=.num n/\1<=n/\n<=999)
def spLabel (K:W.Frag):Sp:=fun vs H Q _=>∃ b s l v e ys,vs=[.ref b,.str (srt s),v]/\LbS s l/\Y1 K H (prtD l e) v/\H b=some (.lst ys)/\ys.length<=5000000/\∀ H',Bk b H H' (ys++(bv (lbB l)).reverse)->Q .non H'
def spFold:Sp:=fun vs H Q _=>∃ n:Int,vs=[.int n]/\Q (.int (fold n)) H
def spPack (K:W.Frag):Nat->Sp
 | 0=>fun _ _ _ _=>False
 | n+1=>fun vs H Q _=>∃ b v it ys,vs=[.ref b,v]/\Y1 K H (toD it) v/\GdI it/\dpI it<=n+1/\(Ub it).length<=1000000/\ys.length+(Ub it).length<=2000000/\H b=some (.lst ys)/\∀ H',Bk b H H' (ys++(bv (Ub it)).reverse)->Q .non H'
structure SortsOk (K:W.Frag) (a:Addr):Prop where
 at':∃ (o:Obj) (its:Array Value) (n:Nat),K.lookup a=some o/\o.cls=.type "tuple" /\ o.dict=none/\o.data=.seq its n/\its.size<=sizeLine/\Z0 ((["whole","text","row","map","rec","arm"]:List Str).map V.str) its.toList
theorem SortsOk.sq {K:W.Frag} {a:Addr} (s:SortsOk K a) (H:Hp):Yg K H a ((["whole","text","row","map","rec","arm"]:List Str).map V.str):=by
 obtain ⟨o,its,n,h1,h2,h3,h4,h5,h6⟩:=s.at'
 exact .inr ⟨o,its,n,h1,h2,h4,h5,h6⟩
theorem SortsOk.ty {K:W.Frag} {a:Addr} (s:SortsOk K a) (H:Hp):tyV K "tuple" (.ref a) H:=by
 obtain ⟨o,its,n,h1,h2,h3,h4,h5,h6⟩:=s.at'
 exact .inr (.inl ⟨rfl,o,h1,h2,h3⟩)
section
variable {P:Program} {w:World} {K:W.Frag} {mg:Str->Option Value} {base:Heap} {f:Addr} {fd:FuncData}
theorem ok_long (F:Uf K "long_of" "long_of" s_long_of f fd) (m:Bn mg):Yj P w K mg base CX0 1 f fd ["n"] spLong:=by
 refine F.ok sc_long_of (fun vs H Q E h=>?_) (fun cdv A outer s H vs Q E hr h=>?_)
 ·obtain ⟨n,rfl,_⟩:=h
  rfl
 obtain ⟨n,rfl,h0,h1,q⟩:=h
 refine ⟨_,(@Zj _ _ _ _ _ (@Zk _ 1 _ _ _ _ _ sc_long_of.nd rfl (by trivial) (@Yf _ _ _ _ Zx) rfl (by trivial)) (@Zj _ _ _ _ _ (@ps_while _ _ _ _ _ _ PassesOwn.never (@Zm _ _ _ _ _ _ _ _ op_ge (pv 0) Zz (Zd _)) (@Zj _ _ _ _ _ (@Yz _ _ _ _ (@pe_bm _ _ _ _ _ _ _ _ _ _ _ _ PySem.F.plainAttrs_list PySem.F.slot_list_append PySem.F.type_list_append V0 (pv 1) (Zf (@Zg _ _ _ _ _ _ _ _ Yx (@Zg _ _ _ _ _ _ _ _ Vi (pv 0) Zz) Zz) Zx rfl) (by trivial) (by trivial) (by trivial) (by trivial) (by trivial)) rfl) (@Zv _ _ _ (@Zk _ 0 _ _ _ _ _ sc_long_of.nd rfl (by trivial) (@Zg _ _ _ _ _ _ _ _ op_fdiv (pv 0) Zz) rfl (by trivial))))) (@Zj _ _ _ _ _ (@Yz _ _ _ _ (@pe_bm _ _ _ _ _ _ _ _ _ _ _ _ PySem.F.plainAttrs_list PySem.F.slot_list_append PySem.F.type_list_append V0 (pv 1) (Zf (pv 0) Zx rfl) (by trivial) (by trivial) (by trivial) (by trivial) (by trivial)) rfl) (@Zv _ _ _ (@Zc _ _ _ _ (@Yn _ _ _ _ _ _ _ _ _ Yu rfl m.tuple b_tuple (Zf (pv 1) Zx rfl) (by trivial) (by trivial) (by trivial) (by trivial))))))), ?_⟩
 refine ⟨(sz 0),fun p hp=>?_⟩
 refine while_by (fun σ H1=>∃ (m:Int) (k:Nat) (fs:List Int),σ=[some (.int m),some (.ref p)]/\H1=Z6 H p (.lst (fs.map V.int))/\0<=m/\m<128 ^ (k+1)/\k+fs.length=19/\fs++Lf k m=Lf 19 n)
  (fun σ _=>m0 σ) ⟨n,19,[],rfl,rfl,h0,h1,rfl,rfl⟩ ?_ ?_
 ·rintro σ H1 ⟨m,k,fs,rfl,rfl,hm,hk,hl,e⟩
  have hz:(fs.map V.int).length<sizeLine:=by rw [List.length_map]; exact Vz (by omega)
  refine ⟨_,rfl,_,_,rfl,rfl,_,rfl, ?_⟩
  refine ite2 (fun c=>?_) (fun c=>?_)
  ·have c':128<=m:=of_decide_eq_true c
   obtain ⟨j,rfl⟩:=more c' hk
   refine ⟨_,rfl,.inl ⟨rfl,_,Yc.of Zq⟩,_,rfl,_,_,rfl,rfl,(by show (0:Int)<128; decide),_,_,rfl,rfl,p,_,_,rfl,rfl,Zq,hz, ?_⟩
   refine ⟨_,rfl,_,_,rfl,rfl,⟨by decide,by decide⟩, ?_⟩
   refine ⟨⟨m / 128,j,fs++[m % 128+128],rfl, ?_,by omega,div_lt hk, ?_, ?_⟩, ?_⟩
   ·rw [upd_upd,List.map_append]
    rfl
   ·rw [List.length_append,List.length_singleton]; omega
   ·rw [<-e,Lf_big j c',List.append_assoc]
    rfl
   ·show (m / 128).toNat<m.toNat
    omega
  ·have c':m<128:=by
    have:=of_decide_eq_false (Bool.eq_false_iff.mpr c)
    omega
   refine ⟨_,rfl,.inl ⟨rfl,_,Yc.of Zq⟩,_,rfl,p,_,_,rfl,rfl,Zq,hz, ?_⟩
   refine ⟨_,rfl,p,_,rfl,.inl ⟨Yc.of Zq,fun l hl'=>?_⟩⟩
   have s1:Zt H (Z6 (Z6 H p (.lst (fs.map V.int))) p (.lst (fs.map V.int++[V.int m]))):=((Zt.refl H).put hp).put hp
   refine q l _ (s1.put (s1.free hl')) ?_
   rw [Zq, <-e,Lf_small k c',List.map_append]
   rfl
 ·rintro σ H1 Q1 Q2 hq ⟨v,e,i,j,e1,e2,b,eb,q1⟩
  exact ⟨v,e,i,j,e1,e2,b,eb,hq _ _ q1⟩
theorem ok_llong (F:Uf K "_law_long" "_law_long" s_law_long f fd) (m:Bn mg):Yj P w K mg base CX0 1 f fd ["_law_n"] spLong:=by
 refine F.ok sc_law_long (fun vs H Q E h=>?_) (fun cdv A outer s H vs Q E hr h=>?_)
 ·obtain ⟨n,rfl,_⟩:=h
  rfl
 obtain ⟨n,rfl,h0,h1,q⟩:=h
 refine ⟨_,(@Zj _ _ _ _ _ (@Zk _ 1 _ _ _ _ _ sc_law_long.nd rfl (by trivial) (@Yf _ _ _ _ (Zf (@Zg _ _ _ _ _ _ _ _ Vi (pv 0) Zz) Zx rfl)) rfl (by trivial)) (@Zj _ _ _ _ _ (@ps_while _ _ _ _ _ _ PassesOwn.never (@Zm _ _ _ _ _ _ _ _ op_gt (pv 0) Zz (Zd _)) (@Zj _ _ _ _ _ (@ps_asg _ _ _ _ _ _ (@Zg _ _ _ _ _ _ _ _ Yx (@Za _ _ _ _ _ _ _ Z8 (pv 1) (@pe_un _ _ _ _ _ _ un_neg Zz) (fun _ _=>rfl)) Zz) (@pg_sub _ _ _ _ _ _ _ (pv 1) (@pe_un _ _ _ _ _ _ un_neg Zz) set_list (by trivial)) (by trivial) (by trivial) (by trivial)) (@Zj _ _ _ _ _ (@Zk _ 0 _ _ _ _ _ sc_law_long.nd rfl (by trivial) (@Zg _ _ _ _ _ _ _ _ op_fdiv (pv 0) Zz) rfl (by trivial)) (@Zv _ _ _ (@Yz _ _ _ _ (@pe_bm _ _ _ _ _ _ _ _ _ _ _ _ PySem.F.plainAttrs_list PySem.F.slot_list_append PySem.F.type_list_append V0 (pv 1) (Zf (@Zg _ _ _ _ _ _ _ _ Vi (pv 0) Zz) Zx rfl) (by trivial) (by trivial) (by trivial) (by trivial) (by trivial)) rfl))))) (@Zv _ _ _ (@Zc _ _ _ _ (@Yn _ _ _ _ _ _ _ _ _ Yu rfl m.tuple b_tuple (Zf (pv 1) Zx rfl) (by trivial) (by trivial) (by trivial) (by trivial)))))), ?_⟩
 refine ⟨_,rfl,_,_,rfl,rfl,(by show (0:Int)<128; decide),(sz 1),fun p hp=>?_⟩
 refine while_by (fun σ H1=>∃ (m:Int) (k:Nat) (fs:List Int),σ=[some (.int m),some (.ref p)]/\H1=Z6 H p (.lst ((fs++[m % 128]).map V.int))/\0<=m/\m<128 ^ (k+1)/\k+fs.length=19/\fs++Lf k m=Lf 19 n)
  (fun σ _=>m0 σ) ⟨n,19,[],rfl,rfl,h0,h1,rfl,rfl⟩ ?_ ?_
 ·rintro σ H1 ⟨m,k,fs,rfl,rfl,hm,hk,hl,e⟩
  refine ⟨_,rfl,_,_,rfl,rfl,_,rfl, ?_⟩
  refine ite2 (fun c=>?_) (fun c=>?_)
  ·have c':128<=m:=by
    have:(127:Int)<m:=of_decide_eq_true c
    omega
   obtain ⟨j,rfl⟩:=more c' hk
   have last:atI ((fs++[m % 128]).map V.int) (-1)=some (.int (m % 128)):=by
    rw [List.map_append]
    exact atI_last _ _
   have lix:ixN ((fs++[m % 128]).map V.int).length (-1)=some fs.length:=by
    rw [List.length_map,List.length_append,List.length_singleton]
    unfold ixN
    rw [if_neg (by decide),if_pos (by omega)]
    congr 1
    omega
   refine ⟨_,rfl,_,rfl,p,_,_,_,rfl,rfl,Yc.of Zq,last,_,_,rfl,rfl,_,rfl,_,rfl,p,_,_,_,rfl,rfl,Zq,lix, ?_⟩
   refine ⟨_,rfl,_,_,rfl,rfl,⟨by decide,by decide⟩, ?_⟩
   refine ⟨_,rfl,.inl ⟨rfl,_,Yc.of Zq⟩,_,rfl,_,_,rfl,rfl,(by show (0:Int)<128; decide),p,_,_,rfl,rfl,Zq, ?_, ?_⟩
   ·rw [List.length_set,List.length_map,List.length_append,List.length_singleton]; exact Vz (by omega)
   ·have e9:(((fs++[m % 128]).map V.int).set fs.length (V.int (m % 128+128)))=(fs++[m % 128+128]).map V.int:=by
     rw [List.map_append,List.map_append]
     have q9:=List.set_append_right (s:=fs.map V.int) (t:=[V.int (m % 128)]) (i:=fs.length) (x:=V.int (m % 128+128)) (by rw [List.length_map]; exact Nat.le_refl _)
     rw [List.length_map,Nat.sub_self] at q9
     exact q9
    refine ⟨⟨m / 128,j,fs++[m % 128+128],rfl, ?_,by omega,div_lt hk, ?_, ?_⟩, ?_⟩
    ·rw [upd_upd,upd_upd,e9,List.map_append (l₁:=fs++[m % 128+128])]
     rfl
    ·rw [List.length_append,List.length_singleton]; omega
    ·rw [<-e,Lf_big j c',List.append_assoc]
     rfl
    ·show (m / 128).toNat<m.toNat
     omega
  ·have c':m<128:=by
    have:¬ (127:Int)<m:=of_decide_eq_false (Bool.eq_false_iff.mpr c)
    omega
   refine ⟨_,rfl,p,_,rfl,.inl ⟨Yc.of Zq,fun l hl'=>?_⟩⟩
   have s1:Zt H (Z6 H p (.lst ((fs++[m % 128]).map V.int))):=(Zt.refl H).put hp
   refine q l _ (s1.put (s1.free hl')) ?_
   have e8:m % 128=m:=by omega
   rw [Zq, <-e,Lf_small k c',e8]
 ·rintro σ H1 Q1 Q2 hq ⟨v,e,i,j,e1,e2,b,eb,q1⟩
  exact ⟨v,e,i,j,e1,e2,b,eb,hq _ _ q1⟩
theorem ok_pack_bytes (F:Uf K "pack_bytes" "pack_bytes" s_pack_bytes f fd) (m:Bn mg):Yj P w K mg base CX0 1 f fd ["backwards","codes"] (spBytes K):=by
 refine F.ok sc_pack_bytes (fun vs H Q E h=>?_) (fun cdv A outer s H vs Q E hr h=>?_)
 ·obtain ⟨b,c,ys,zs,rfl,_⟩:=h
  rfl
 obtain ⟨b,c,ys,zs,rfl,hb,hc,hl,q⟩:=h
 refine ⟨_,(@Zv _ _ _ (@Yz _ _ _ _ (@pe_bm _ _ _ _ _ _ _ _ _ _ _ _ PySem.F.plainAttrs_list PySem.F.slot_list_extend PySem.F.type_list_extend mt_extend (pv 0) (Zf (@pe_listRev _ _ _ _ _ _ _ rfl rfl m.list rfl m.reversed (Zf (pv 1) Zx rfl) rfl rfl rfl) Zx rfl) (by trivial) (by trivial) (by trivial) (by trivial) (by trivial)) rfl)), ?_⟩
 refine ⟨_,rfl,.inl ⟨rfl,_,Yc.of hb⟩, ?_⟩
 have go:∀ p,H p=none->rExtend (.ref b) [.ref p] (Z6 H p (.lst zs.reverse)) (fun v H'=>Q .non H'):=fun p hp=>by
  have hb1:Z6 H p (.lst zs.reverse) b=some (.lst ys):=(Zt.lay hp) _ _ hb
  refine ⟨b,p,ys,zs.reverse,rfl,rfl,hb1,Zq,by rw [List.length_reverse]; exact Nat.le_trans hl (by decide),q _ ⟨fun x o n h=>?_,Zq⟩⟩
  rw [Zh n]
  exact (Zt.lay hp) _ _ h
 rcases hc with hc | hc
 ·exact .inl ⟨_,rfl,c,zs,rfl,hc,go⟩
 ·exact .inr ⟨_,rfl,c,zs,rfl,hc,go⟩
theorem ord_comp {H:Hp} {x:Str} {D:Addr} {fin:Hp->Prop} {o:Option V} (hl:x.cps.size<=1000000) (hD:H D=none) (hf:∀ H6,Zt H H6->H6 D=some (.lst (bv (codes x)))->fin H6) :
  ∃ W:Nat->Nat->List V->L2.St->Hp->Prop,(∃ m,W 0 m [] [o] (Z6 H D (.lst [])))/\CompW (Its x) (gName 0) tAlways (tCB (fun xs H Q=>∃ x,xs=[.str x]/\x.length=1/\Q (.int (x.cps.getD 0 0:Nat)) H) (tCons (tVar 0) tNil)) D W fin:=by
 refine comp_str (x:=x) (fun i ys σ H5=>(∃ o',σ=[o'])/\ys=bv ((codes x).take i)/\Zt H H5/\H5 D=some (.lst ys)) ⟨⟨_,rfl⟩,rfl,(Zt.refl H).put hD,Zq⟩ ?_ ?_ ?_
 ·rintro i ys σ H5 hi ⟨_,_,s5,h5⟩
  exact h5
 ·rintro i c ys σ H5 hx ⟨⟨o',rfl⟩,rfl,s5,h5⟩
  have et:(codes x)[i]?=some (c:Int):=by
   unfold codes
   rw [List.getElem?_map]
   have:x.cps.toList[i]?=some c:=by simpa using hx
   rw [this]; rfl
  refine goAlways ⟨_,rfl,⟨#[c]⟩,rfl,rfl,h5, ?_,⟨_,rfl⟩, ?_,s5.put hD,Zq⟩
  ·rw [Zu,List.length_take,codes_len]; exact Nat.lt_of_le_of_lt (Nat.le_trans (Nat.min_le_right _ _) hl) (by decide)
  ·rw [take_more et,Uv]; rfl
 ·rintro ys σ H5 ⟨_,rfl,s5,h5⟩
  refine hf H5 s5 ?_
  rw [h5,List.take_of_length_le]
  rw [codes_len]; exact Nat.le_refl _
theorem ok_pack_signs (F:Uf K "pack_signs" "pack_signs" s_pack_signs f fd) (m:Bn mg) (g_pack_bytes:Fn P w K mg base 1 "pack_bytes" ["backwards","codes"] (spBytes K)) (g_long_of:Fn P w K mg base 1 "long_of" ["n"] spLong):Yj P w K mg base CX0 2 f fd ["backwards","text"] spSigns:=by
 refine F.ok sc_pack_signs (fun vs H Q E h=>?_) (fun cdv A outer s H vs Q E hr h=>?_)
 ·obtain ⟨b,x,ys,rfl,_⟩:=h
  rfl
 obtain ⟨b,x,ys,rfl,hb,hx,hl,q⟩:=h
 refine ⟨_,(@Zj _ _ _ _ _ (@Yz _ _ _ _ (@Zy _ _ _ _ _ _ _ _ _ _ g_pack_bytes hr.m rfl (Zf (pv 0) (Zf (@pe_compI _ N_pack_signs (Zb s_pack_signs) ["sign"] [none] _ _ _ _ _ _ _ _ _ _ rfl (@pi_str _ _ _ _ (pv 1)) ⟨rfl,rfl,by decide +kernel,by decide +kernel⟩ (fun _ _ _=>(@Zo _ 0 _ _ (show List.Nodup (["sign"]:List Str) from by decide +kernel) rfl (Or.inl rfl) (by trivial))) (fun _ _ _=>pts_nil) (fun _ _ _=>(@Z9 _ _ _ _ _ _ _ _ _ call_ord rfl m.ord b_ord (Zf (pv 0) Zx rfl) (by decide) (by decide) rfl rfl)) (by trivial)) Zx rfl) rfl) (by decide) rfl rfl) rfl) (@Zv _ _ _ (@Yz _ _ _ _ (@Zy _ _ _ _ _ _ _ _ _ _ g_pack_bytes hr.m rfl (Zf (pv 0) (Zf (@Zy _ _ _ _ _ _ _ _ _ _ g_long_of hr.m rfl (Zf (@Z9 _ _ _ _ _ _ _ _ _ call_len_str rfl m.len b_len (Zf (pv 1) Zx rfl) (by decide) (by decide) rfl rfl) Zx rfl) (by decide) rfl rfl) Zx rfl) rfl) (by decide) rfl rfl) rfl))), ?_⟩
 have lc:=codes_len x
 have ll:=Uy x.length
 refine ⟨_,rfl,_,rfl,x,rfl,fun D fp sx hD=>ord_comp (Nat.le_trans hx (by decide)) hD fun H1 s1 h1=>?_⟩
 refine ⟨b,D,ys,bv (codes x),rfl,s1 _ _ hb,.inr (Yc.of h1),by rw [Zu]; omega,fun H2 k2=>?_⟩
 refine ⟨_,rfl,_,rfl,x,rfl,Nat.le_trans hx (by decide),_,rfl,by omega,lt20 (by omega),fun r H3 s3 h3=>?_⟩
 refine ⟨b,r,_,bv (Lg x.length),rfl,s3 _ _ k2.at',.inl (Yg.of h3),by rw [List.length_append,List.length_reverse,Zu,Zu]; omega,fun H4 k4=>q H4 ?_⟩
 have k:=(k2.same s1).trans (k4.same s3)
 rw [show ys++(bv (sgB x)).reverse=ys++(bv (codes x)).reverse++(bv (Lg x.length)).reverse by unfold sgB; rw [Uv,List.reverse_append,List.append_assoc]]
 exact k
theorem ok_pack_label (F:Uf K "pack_label" "pack_label" s_pack_label f fd) (g_pack_bytes:Fn P w K mg base 1 "pack_bytes" ["backwards","codes"] (spBytes K)) (g_long_of:Fn P w K mg base 1 "long_of" ["n"] spLong) (g_pack_signs:Fn P w K mg base 2 "pack_signs" ["backwards","text"] spSigns) :
  Yj P w K mg base CX0 3 f fd ["backwards","sort","part"] (spLabel K):=by
 refine F.ok sc_pack_label (fun vs H Q E h=>?_) (fun cdv A outer s H vs Q E hr h=>?_)
 ·obtain ⟨b,s,l,v,e,ys,rfl,_⟩:=h
  rfl
 obtain ⟨b,s',l,v,e,ys,rfl,hs,hd,hb,hl,q⟩:=h
 refine ⟨_,(@Zv _ _ _ (@Ze _ _ _ _ _ _ _ _ (@Zm _ _ _ _ _ _ _ _ Ym (pv 1) Zp (Zd _)) (@Zv _ _ _ (@Yz _ _ _ _ (@Zy _ _ _ _ _ _ _ _ _ _ g_pack_signs hr.m rfl (Zf (pv 0) (Zf (@Za _ _ _ _ _ _ _ Yh (pv 2) Zz (fun _ _=>rfl)) Zx rfl) rfl) (by decide) rfl rfl) rfl)) (@Zv _ _ _ (@Ze _ _ _ _ _ _ _ _ (@Zm _ _ _ _ _ _ _ _ Ym (pv 1) Zp (Zd _)) (@Zv _ _ _ (@Yz _ _ _ _ (@Zy _ _ _ _ _ _ _ _ _ _ g_pack_bytes hr.m rfl (Zf (pv 0) (Zf (@Zy _ _ _ _ _ _ _ _ _ _ g_long_of hr.m rfl (Zf (@Za _ _ _ _ _ _ _ Yh (pv 2) Zz (fun _ _=>rfl)) Zx rfl) (by decide) rfl rfl) Zx rfl) rfl) (by decide) rfl rfl) rfl)) Zl)))), ?_⟩
 refine ⟨_,rfl,rfl,_,rfl, ?_⟩
 rcases hs with ⟨rfl,rfl⟩ | ⟨rfl,x,rfl,nx⟩ | ⟨rfl,n,rfl,n0,n1⟩
 ·refine Z2 (by decide +kernel) ⟨_,rfl,rfl,_,rfl,Z2 (by decide +kernel) (q H ⟨fun _ _ _ h=>h, ?_⟩)⟩
  show H b=some (.lst (ys++[]))
  rw [List.append_nil]; exact hb
 ·obtain ⟨p,vx,vy,rfl,hp,rfl,_⟩:=isD2 hd
  exact Yv (by decide +kernel) ⟨_,rfl,_,rfl,p,_,_,_,rfl,rfl,hp,rfl,b,x,ys,rfl,hb,by have:=nx.2.1; omega,hl,q⟩
 ·obtain ⟨p,vx,vy,rfl,hp,rfl,_⟩:=isD2 hd
  refine Z2 (by decide +kernel) ⟨_,rfl,rfl,_,rfl,Yv (by decide +kernel) ⟨_,rfl,_,rfl,p,_,_,_,rfl,rfl,hp,rfl,n,rfl,by omega,lt20 (by omega),fun r H3 s3 h3=>?_⟩⟩
  have ll:=Uy n
  exact ⟨b,r,ys,bv (Lg n),rfl,s3 _ _ hb,.inl (Yg.of h3),by rw [Zu]; omega,fun H4 k4=>q H4 (k4.same s3)⟩
theorem ok_folded (F:Uf K "folded" "folded" s_folded f fd):Yj P w K mg base CX0 1 f fd ["n"] spFold:=by
 refine F.ok sc_folded (fun vs H Q E h=>?_) (fun cdv A outer s H vs Q E hr h=>?_)
 ·obtain ⟨n,rfl,_⟩:=h
  rfl
 obtain ⟨n,rfl,q⟩:=h
 refine ⟨_,(@Zv _ _ _ (@Zc _ _ _ _ (@pe_ifExp _ _ _ _ _ _ _ _ (@Zm _ _ _ _ _ _ _ _ op_ge (pv 0) Zz (Zd _)) (@Zg _ _ _ _ _ _ _ _ Vl Zz (pv 0)) (@Zg _ _ _ _ _ _ _ _ Y9 (@Zg _ _ _ _ _ _ _ _ Vl (@pe_un _ _ _ _ _ _ un_neg Zz) (pv 0)) Zz)))), ?_⟩
 refine ⟨_,rfl,_,_,rfl,rfl,_,rfl, ?_⟩
 refine ite2 (fun c=>?_) (fun c=>?_)
 ·have c':0<=n:=of_decide_eq_true c
  refine ⟨_,rfl,_,_,rfl,rfl,.inl ⟨by decide,by decide⟩, ?_⟩
  have e:fold n=2 * n:=by unfold fold; rw [if_pos c']
  rw [e] at q
  exact q
 ·have c':¬ 0<=n:=fun z=>c (decide_eq_true z)
  refine ⟨_,rfl,_,rfl,_,_,rfl,rfl,.inl ⟨by decide,by decide⟩,_,_,rfl,rfl, ?_⟩
  have e:fold n=-2 * n - 1:=by unfold fold; rw [if_neg c']
  rw [e] at q
  exact q
end
abbrev s_law_key:Stmt:=top 51
abbrev N_law_key:List Str:=["_law_key_here"]
theorem sc_law_key:Zr N_law_key ["_law_key_here"] (Zb s_law_key):=by trivial
abbrev s_law_packed:Stmt:=top 52
abbrev N_law_packed:List Str:=["_law_item_here","_law_rest","_law_part"]
theorem V9:Zr N_law_packed ["_law_item_here"] (Zb s_law_packed):=by trivial
theorem GdL.at {s:Nat} {ls:List Lb} (hs:s<=2) (g:GdL s ls):∀ l∈ls,LbS s l:=by
 intro l m
 match s,hs,g with
 | 0,_,g=>exact .inl ⟨rfl,g l m⟩
 | 1,_,⟨ks,e,h,_⟩ =>
  rw [e] at m
  obtain ⟨x,mx,rfl⟩:=List.mem_map.mp m
  exact .inr (.inl ⟨rfl,x,rfl,h x mx⟩)
 | 2,_,⟨ks,e,h,_⟩ =>
  rw [e] at m
  obtain ⟨x,mx,rfl⟩:=List.mem_map.mp m
  exact .inr (.inr ⟨rfl,x,rfl,h x mx⟩)
theorem prtDs_get:∀ {ls:List Lb} {ds:List D} {j:Nat} {l:Lb} {d:D},ls[j]?=some l->ds[j]?=some d->(Y5 ls ds)[j]?=some (prtD l d)
 | [],_,j,l,d,h,_=>by simp at h
 | _::_,[],j,l,d,_,h=>by simp at h
 | l0::ls,d0::ds,0,l,d,h1,h2=>by
  simp at h1 h2
  subst h1 h2
  rfl
 | l0::ls,d0::ds,j+1,l,d,h1,h2=>by
  simp only [Y5,List.getElem?_cons_succ]
  exact prtDs_get (by simpa using h1) (by simpa using h2)
theorem byIs_drop {ls:List Lb} {es:List IT} {j:Nat} {l:Lb} {e:IT} (h1:ls[j]?=some l) (h2:es[j]?=some e):Yt (ls.drop j) (es.drop j)=lbB l++Ub e++Yt (ls.drop (j+1)) (es.drop (j+1)):=by
 obtain ⟨a,b⟩:=List.getElem?_eq_some_iff.mp h1
 obtain ⟨c,d⟩:=List.getElem?_eq_some_iff.mp h2
 rw [List.drop_eq_getElem_cons a,List.drop_eq_getElem_cons c,b,d]
 simp only [Yt]
theorem byIs_drop_le (ls:List Lb) (es:List IT):∀ j,(Yt (ls.drop j) (es.drop j)).length<=(Yt ls es).length
 | 0=>Nat.le_refl _
 | j+1=>by
  have ih:=byIs_drop_le ls es j
  by_cases h1:j<ls.length
  ·by_cases h2:j<es.length
   ·rw [byIs_drop (List.getElem?_eq_getElem h1) (List.getElem?_eq_getElem h2)] at ih
    simp only [List.length_append] at ih
    omega
   ·rw [List.drop_eq_nil_of_le (as:=es) (by omega)]
    cases ls.drop (j+1) <;> simp [Yt]
  ·rw [List.drop_eq_nil_of_le (as:=ls) (by omega)]
   simp [Yt]
theorem srt_ne (s:Nat):(srt s == "whole")=false/\(srt s == "text")=false/\(srt s == "arm")=false:=by
 match s with
 | 0=>decide +kernel
 | 1=>decide +kernel
 | _+2=>exact (by decide +kernel:(("rec" : Str) == "whole")=false/\(("rec" : Str) == "text")=false/\(("rec" : Str) == "arm")=false)
theorem vs_ne {x z:Str} (h:(x == z)=false):decide (V.str x=V.str z)=false:=by
 rw [decide_eq_false_iff_not]
 intro e
 injection e with e
 rw [e,beq_self_eq_true] at h
 cases h
theorem areD_got {K:W.Frag} {H:Hp} {ds:List D} {vs:List V} {i:Nat} {v:V} (h:Zi K H ds vs) (e:vs[i]?=some v):∃ d,ds[i]?=some d/\Y1 K H d v:=by
 have hi:=(List.getElem?_eq_some_iff.mp e).1
 have hi':i<ds.length:=by rw [h.length]; exact hi
 obtain ⟨v',e1,q⟩:=h.get (List.getElem?_eq_getElem hi')
 rw [e] at e1; cases e1
 exact ⟨_,List.getElem?_eq_getElem hi',q⟩
section
variable {P:Program} {w:World} {K:W.Frag} {mg:Str->Option Value} {base:Heap} {f:Addr} {fd:FuncData} {aS:Addr}
theorem sIndex {s:Nat} (hs:s<=2):(["whole","text","row","map","rec","arm"]:List Str)[s+2]?=some (srt s)/\∀ m,m<s+2->(["whole","text","row","map","rec","arm"]:List Str)[m]?≠some (srt s):=by
 match s,hs with
 | 0,_=>exact ⟨by decide +kernel,by decide +kernel⟩
 | 1,_=>exact ⟨by decide +kernel,by decide +kernel⟩
 | 2,_=>exact ⟨by decide +kernel,by decide +kernel⟩
theorem ok_pack_item (F:Uf K "pack_item" "pack_item" s_pack_item f fd) (m:Bn mg) (so:SortsOk K aS) (x_SORTS:mg "SORTS" = some (.ref aS)) (bd:Vc K fd ["backwards","item"] []) (mf:mg "pack_item" = some (.ref f))
  (g_pack_bytes:Fn P w K mg base 1 "pack_bytes" ["backwards","codes"] (spBytes K)) (g_long_of:Fn P w K mg base 1 "long_of" ["n"] spLong) (g_pack_signs:Fn P w K mg base 2 "pack_signs" ["backwards","text"] spSigns)
  (g_pack_label:Fn P w K mg base 3 "pack_label" ["backwards","sort","part"] (spLabel K)) (g_folded:Fn P w K mg base 1 "folded" ["n"] spFold):∀ n,Yj P w K mg base CX0 (n+4) f fd ["backwards","item"] (spPack K n)
 | 0=>⟨fun vs H Q E h=>h.elim,fun A outer s H args us vs Q E _ _ _ _ h=>h.elim⟩
 | n+1=>by
  have g_pack_item:Fn P w K mg base (n+4) "pack_item" ["backwards","item"] (spPack K n):=⟨f,fd,ok_pack_item F m so x_SORTS bd mf g_pack_bytes g_long_of g_pack_signs g_pack_label g_folded n,bd,F.kp,mf⟩
  refine F.ok sc_pack_item (fun vs H Q E h=>?_) (fun cdv A outer s H vs Q E hr h=>?_)
  ·obtain ⟨b,v,it,ys,rfl,_⟩:=h
   rfl
  obtain ⟨b,v,it,ys,rfl,hd,gd,dp,lb,lt,hb,q⟩:=h
  refine ⟨_,(@Zj _ _ _ _ _ (@Zk _ 2 _ _ _ _ _ sc_pack_item.nd rfl (by trivial) (@Za _ _ _ _ _ _ _ Yh (pv 1) Zz (fun _ _=>rfl)) rfl (by trivial)) (@Zj _ _ _ _ _ (@Ze _ _ _ _ _ _ _ _ (@Zm _ _ _ _ _ _ _ _ Ym (pv 2) Zp (Zd _)) (@Zv _ _ _ (@Yz _ _ _ _ (@Zy _ _ _ _ _ _ _ _ _ _ g_pack_bytes hr.m rfl (Zf (pv 0) (Zf (@Zy _ _ _ _ _ _ _ _ _ _ g_long_of hr.m rfl (Zf (@Zy _ _ _ _ _ _ _ _ _ _ g_folded hr.m rfl (Zf (@Za _ _ _ _ _ _ _ Yh (pv 1) Zz (fun _ _=>rfl)) Zx rfl) (by decide) rfl rfl) Zx rfl) (by decide) rfl rfl) Zx rfl) rfl) (by decide) rfl rfl) rfl)) (@Zv _ _ _ (@Ze _ _ _ _ _ _ _ _ (@Zm _ _ _ _ _ _ _ _ Ym (pv 2) Zp (Zd _)) (@Zv _ _ _ (@Yz _ _ _ _ (@Zy _ _ _ _ _ _ _ _ _ _ g_pack_signs hr.m rfl (Zf (pv 0) (Zf (@Za _ _ _ _ _ _ _ Yh (pv 1) Zz (fun _ _=>rfl)) Zx rfl) rfl) (by decide) rfl rfl) rfl)) (@Zv _ _ _ (@Ze _ _ _ _ _ _ _ _ (@Zm _ _ _ _ _ _ _ _ Ym (pv 2) Zp (Zd _)) (@Zj _ _ _ _ _ (@Yz _ _ _ _ (@Zy _ _ _ _ _ _ _ _ _ _ g_pack_item hr.m rfl (Zf (pv 0) (Zf (@Za _ _ _ _ _ _ _ Yh (pv 1) Zz (fun _ _=>rfl)) Zx rfl) rfl) (by decide) rfl rfl) rfl) (@Zv _ _ _ (@Yz _ _ _ _ (@Zy _ _ _ _ _ _ _ _ _ _ g_pack_bytes hr.m rfl (Zf (pv 0) (Zf (@Zy _ _ _ _ _ _ _ _ _ _ g_long_of hr.m rfl (Zf (@Za _ _ _ _ _ _ _ Yh (pv 1) Zz (fun _ _=>rfl)) Zx rfl) (by decide) rfl rfl) Zx rfl) rfl) (by decide) rfl rfl) rfl))) (@Zj _ _ _ _ _ (@Zk _ 3 _ _ _ _ _ sc_pack_item.nd rfl (by trivial) (@Z9 _ _ _ _ _ _ _ _ _ Yy rfl m.len b_len (Zf (pv 0) Zx rfl) (by decide) (by decide) rfl rfl) rfl (by trivial)) (@Zj _ _ _ _ _ (@ps_for _ _ _ _ _ _ _ _ PassesOwn.never rfl (@pi_rev _ _ _ _ _ _ rfl m.reversed (Zf (@Za _ _ _ _ _ _ _ Yh (pv 1) Zz (fun _ _=>rfl)) Zx rfl) rfl rfl) (@Zo _ 4 _ _ sc_pack_item.nd rfl (by trivial) (by trivial)) (@Zj _ _ _ _ _ (@Yz _ _ _ _ (@Zy _ _ _ _ _ _ _ _ _ _ g_pack_item hr.m rfl (Zf (pv 0) (Zf (@pe_ifExp _ _ _ _ _ _ _ _ (@Zm _ _ _ _ _ _ _ _ Ym (pv 2) Zp (Zd _)) (pv 4) (@Za _ _ _ _ _ _ _ Yh (pv 4) Zz (fun _ _=>rfl))) Zx rfl) rfl) (by decide) rfl rfl) rfl) (@Zv _ _ _ (@Yz _ _ _ _ (@Zy _ _ _ _ _ _ _ _ _ _ g_pack_label hr.m rfl (Zf (pv 0) (Zf (pv 2) (Zf (pv 4) Zx rfl) rfl) rfl) (by decide) rfl rfl) rfl))) (by trivial)) (@Zv _ _ _ (@Yz _ _ _ _ (@Zy _ _ _ _ _ _ _ _ _ _ g_pack_bytes hr.m rfl (Zf (pv 0) (Zf (@Zy _ _ _ _ _ _ _ _ _ _ g_long_of hr.m rfl (Zf (@Zg _ _ _ _ _ _ _ _ Y9 (@Z9 _ _ _ _ _ _ _ _ _ Yy rfl m.len b_len (Zf (pv 0) Zx rfl) (by decide) (by decide) rfl rfl) (pv 3)) Zx rfl) (by decide) rfl rfl) Zx rfl) rfl) (by decide) rfl rfl) rfl))))))))) (@Zv _ _ _ (@Yz _ _ _ _ (@pe_bm _ _ _ _ _ _ _ _ _ _ _ _ PySem.F.plainAttrs_list PySem.F.slot_list_append PySem.F.type_list_append V0 (pv 0) (Zf (@pe_bm _ _ _ _ _ _ _ _ _ _ _ _ PySem.F.plainAttrs_tuple PySem.F.slot_tuple_index PySem.F.type_tuple_index mt_indexT (@Vw _ _ _ _ rfl x_SORTS (by decide)) (Zf (pv 2) Zx rfl) (by trivial) (by trivial) (by trivial) (by trivial) (by trivial)) Zx rfl) (by trivial) (by trivial) (by trivial) (by trivial) (by trivial)) rfl)))), ?_⟩
  cases it with
  | whole k =>
   obtain ⟨p,x,y,rfl,hp,rfl,rfl⟩:=isD2 hd
   have ll:=Uy (fold k)
   have lb':(Ub (.whole k)).length=(Lg (fold k)).length+1:=by simp only [Ub,List.length_cons]
   refine ⟨_,rfl,p,_,_,_,rfl,rfl,hp,rfl,_,rfl,rfl,_,rfl,Yv (by decide +kernel) ?_⟩
   refine ⟨_,rfl,_,rfl,p,_,_,_,rfl,rfl,hp,rfl,k,rfl,fold k,rfl,fold_nn k,lt20 (Int.le_trans (fold_le gd.1 gd.2) (by decide)),fun r H1 s1 h1=>?_⟩
   refine ⟨b,r,ys,bv (Lg (fold k)),rfl,s1 _ _ hb,.inl (Yg.of h1),by rw [Zu]; omega,fun H2 k2=>?_⟩
   have k3:=k2.same s1
   refine ⟨_,rfl,.inl ⟨rfl,_,Yc.of k3.at'⟩,so.ty _,_,rfl,aS,_,_,0,rfl,rfl,so.sq _,by decide +kernel,by decide,b,_,_,rfl,rfl,k3.at', ?_, ?_⟩
   ·rw [List.length_append,List.length_reverse,Zu]; exact Nat.lt_of_le_of_lt (show _<=3000000 by omega) (by decide)
   ·refine q _ ⟨fun x o n h=>by rw [Zh n]; exact k3.keep x o n h, ?_⟩
    rw [Zq]
    simp only [Ub,bv,List.map_cons,List.reverse_cons,List.append_assoc]
    rfl
  | text x =>
   obtain ⟨p,vx,y,rfl,hp,rfl,rfl⟩:=isD2 hd
   have ll:=sgB_len x
   have lx:=gd.1
   refine ⟨_,rfl,p,_,_,_,rfl,rfl,hp,rfl,_,rfl,rfl,_,rfl,Z2 (by decide +kernel) ?_⟩
   refine ⟨_,rfl,rfl,_,rfl,Yv (by decide +kernel) ?_⟩
   refine ⟨_,rfl,_,rfl,p,_,_,_,rfl,rfl,hp,rfl,b,x,ys,rfl,hb,by omega,by omega,fun H2 k3=>?_⟩
   refine ⟨_,rfl,.inl ⟨rfl,_,Yc.of k3.at'⟩,so.ty _,_,rfl,aS,_,_,1,rfl,rfl,so.sq _,by decide +kernel,by decide +kernel,b,_,_,rfl,rfl,k3.at', ?_, ?_⟩
   ·rw [List.length_append,List.length_reverse,Zu]; exact Nat.lt_of_le_of_lt (show _<=3000000 by omega) (by decide)
   ·refine q _ ⟨fun x o n h=>by rw [Zh n]; exact k3.keep x o n h, ?_⟩
    rw [Zq]
    simp only [Ub,bv,List.map_cons,List.reverse_cons,List.append_assoc]
    rfl
  | arm k e =>
   obtain ⟨p,vx,y,z,rfl,hp,rfl,rfl,hz⟩:=isD3 hd
   have ll:=Uy k
   have lb':(Ub (.arm k e)).length=(Lg k).length+(Ub e).length+1:=by simp only [Ub,List.length_cons,List.length_append]
   have de:dpI e+1<=n+1:=dp
   have e1:1<=dpI e:=by cases e <;> simp only [dpI] <;> omega
   obtain ⟨n',rfl⟩:∃ n',n=n'+1:=⟨n - 1,by omega⟩
   refine ⟨_,rfl,p,_,_,_,rfl,rfl,hp,rfl,_,rfl,rfl,_,rfl,Z2 (by decide +kernel) ?_⟩
   refine ⟨_,rfl,rfl,_,rfl,Z2 (by decide +kernel) ?_⟩
   refine ⟨_,rfl,rfl,_,rfl,Yv (by decide +kernel) ?_⟩
   refine ⟨_,rfl,_,rfl,p,_,_,_,rfl,rfl,hp,rfl,b,z,e,ys,rfl,hz,gd.2.2,by omega,by omega,by omega,hb,fun H1 k1=>?_⟩
   refine ⟨_,rfl,_,rfl,p,_,_,_,rfl,rfl,(k1.up hb) _ _ hp,rfl,k,rfl,by have:=gd.1; omega,lt20 (by have:=gd.2.1; omega),fun r H2 s2 h2=>?_⟩
   refine ⟨b,r,_,bv (Lg k),rfl,s2 _ _ k1.at',.inl (Yg.of h2),by rw [List.length_append,List.length_reverse,Zu,Zu]; omega,fun H3 k3'=>?_⟩
   have k3:=k1.trans (k3'.same s2)
   refine ⟨_,rfl,.inl ⟨rfl,_,Yc.of k3.at'⟩,so.ty _,_,rfl,aS,_,_,5,rfl,rfl,so.sq _,by decide +kernel,by decide +kernel,b,_,_,rfl,rfl,k3.at', ?_, ?_⟩
   ·rw [List.length_append,List.length_append,List.length_reverse,List.length_reverse,Zu,Zu]; exact Nat.lt_of_le_of_lt (show _<=3000000 by omega) (by decide)
   ·refine q _ ⟨fun x o n h=>by rw [Zh n]; exact k3.keep x o n h, ?_⟩
    rw [Zq]
    simp only [Ub,bv,List.map_cons,List.map_append,List.reverse_cons,List.reverse_append,List.append_assoc]
    rfl
  | lst st ls es =>
   obtain ⟨hs,hl,gl,ge⟩:=gd
   obtain ⟨p,vx,y,rfl,hp,rfl,pp,ws,rfl,hpp,ar⟩:=isD2 hd
   obtain ⟨n1,n2,n3⟩:=srt_ne st
   have hlen:es.length=ws.length:=by rw [<-ar.length,prtDs_len (by rw [V7,List.length_map]; exact hl),V7,List.length_map]
   have ll:=Uy (Yt ls es).length
   have lb':(Ub (.lst st ls es)).length=(Lg (Yt ls es).length).length+(Yt ls es).length+1:=by simp only [Ub,List.length_cons,List.length_append]
   refine ⟨_,rfl,p,_,_,_,rfl,rfl,hp,rfl,_,rfl,rfl,_,rfl,Z2 (vs_ne n1) ?_⟩
   refine ⟨_,rfl,rfl,_,rfl,Z2 (vs_ne n2) ?_⟩
   refine ⟨_,rfl,rfl,_,rfl,Z2 (vs_ne n3) ?_⟩
   refine ⟨_,rfl,b,ys,rfl,.inl (Yc.of hb), ?_⟩
   refine ⟨_,rfl,p,_,_,_,rfl,rfl,hp,rfl,pp,ws,rfl,hpp,for_rev (xs:=ws) (fun i σ H2=>(∃ o,σ=[some (.ref b),some (.ref p),some (.str (srt st)),some (.int ys.length),o])/\Bk b H H2 (ys++(bv (Yt (ls.drop (ws.length - i)) (es.drop (ws.length - i)))).reverse)) ⟨⟨_,rfl⟩,⟨fun _ _ _ h=>h, ?_⟩⟩ ?_ ?_ ?_⟩
   ·rw [Nat.sub_zero, <-hlen,List.drop_length, <-hl,List.drop_length]
    show H b=some (.lst (ys++[]))
    rw [List.append_nil]
    exact hb
   ·rintro i σ H2 hi ⟨_,k2⟩
    exact (k2.up hb) _ _ hpp
   ·rintro i x σ H2 hx ⟨⟨o,rfl⟩,k2⟩
    have hi:i<ws.length:=by have:=(List.getElem?_eq_some_iff.mp hx).1; rwa [List.length_reverse] at this
    rw [List.getElem?_reverse hi] at hx
    obtain ⟨j,hj⟩:∃ j,j=ws.length - 1 - i:=⟨_,rfl⟩
    rw [<-hj] at hx
    have hjw:j<ws.length:=by omega
    have hje:j<es.length:=by omega
    have hjl:j<ls.length:=by omega
    obtain ⟨d,ed,id'⟩:=areD_got ar hx
    have el:ls[j]?=some ls[j]:=List.getElem?_eq_getElem hjl
    have ee:es[j]?=some es[j]:=List.getElem?_eq_getElem hje
    have ed2:=prtDs_get (ds:=toDs es) el (by rw [V7,List.getElem?_map,ee]; rfl)
    rw [ed] at ed2
    cases ed2
    have ml:ls[j]∈ls:=List.getElem_mem hjl
    have me:es[j]∈es:=List.getElem_mem hje
    generalize ls[j]=l at el ml id' ed
    generalize es[j]=e at ee me id' ed
    have hls:=gl.at hs l ml
    have gde:=GdIs_all.mp ge e me
    have dd:dpI e+1<=n+1:=by have:=dpI_mem me; simp only [dpI] at dp; omega
    have e1:1<=dpI e:=by cases e <;> simp only [dpI] <;> omega
    obtain ⟨n',rfl⟩:∃ n',n=n'+1:=⟨n - 1,by omega⟩
    have dr:Yt (ls.drop j) (es.drop j)=lbB l++Ub e++Yt (ls.drop (j+1)) (es.drop (j+1)):=byIs_drop el ee
    have drl:=byIs_drop_le ls es j
    rw [dr] at drl
    simp only [List.length_append] at drl
    have e3:ws.length - i=j+1:=by omega
    have e4:ws.length - (i+1)=j:=by omega
    rw [e3] at k2
    have idH:=Y1.up (k2.up hb) _ _ (by
     have:=Y8 ls es
     exact noLs_mem this (List.mem_of_getElem? ed)) id'
    have kl:(ys++(bv (Yt (ls.drop (j+1)) (es.drop (j+1)))).reverse).length=ys.length+(Yt (ls.drop (j+1)) (es.drop (j+1))).length:=by rw [List.length_append,List.length_reverse,Zu]
    have last:∀ H3,Bk b H2 H3 (ys++(bv (Yt (ls.drop (j+1)) (es.drop (j+1)))).reverse++(bv (Ub e)).reverse)->spLabel K [.ref b,.str (srt st),x] H3 (fun v H4=>(∃ o,([some (.ref b),some (.ref p),some (.str (srt st)),some (.int ys.length),some x]:L2.St)=[some (.ref b),some (.ref p),some (.str (srt st)),some (.int ys.length),o])/\Bk b H H4 (ys++(bv (Yt (ls.drop (ws.length - (i+1))) (es.drop (ws.length - (i+1))))).reverse)) E0:=fun H3 k3=>by
     refine ⟨b,st,l,x,toD e,_,rfl,hls,Y1.up (k3.up k2.at') _ _ (noLs_mem (Y8 ls es) (List.mem_of_getElem? ed)) idH,k3.at',by rw [List.length_append,kl,List.length_reverse,Zu]; omega,fun H4 k4=>⟨⟨_,rfl⟩, ?_⟩⟩
     rw [e4,dr]
     have:=(k2.trans k3).trans k4
     rw [show ys++(bv (lbB l++Ub e++Yt (ls.drop (j+1)) (es.drop (j+1)))).reverse=ys++(bv (Yt (ls.drop (j+1)) (es.drop (j+1)))).reverse++(bv (Ub e)).reverse++(bv (lbB l)).reverse by rw [Uv,Uv,List.reverse_append,List.reverse_append]; simp only [List.append_assoc]]
     exact this
    refine ⟨_,rfl,_,rfl,rfl,_,rfl, ?_⟩
    rcases hls with ⟨rfl,rfl⟩ | ⟨rfl,x',rfl,nx⟩ | ⟨rfl,n'',rfl,n0,n1⟩
    ·refine Yv (by decide +kernel) ⟨_,rfl,b,x,e,_,rfl,idH,gde,by omega,by omega,by rw [kl]; omega,k2.at',fun H3 k3=>?_⟩
     exact ⟨_,rfl,_,rfl,_,rfl,last H3 k3⟩
    ·obtain ⟨q1,vx',vy',rfl,hq1,_,iy⟩:=isD2 idH
     refine Z2 (by decide +kernel) ⟨_,rfl,q1,_,_,_,rfl,rfl,hq1,rfl,b,vy',e,_,rfl,iy,gde,by omega,by omega,by rw [kl]; omega,k2.at',fun H3 k3=>?_⟩
     exact ⟨_,rfl,_,rfl,_,rfl,last H3 k3⟩
    ·obtain ⟨q1,vx',vy',rfl,hq1,_,iy⟩:=isD2 idH
     refine Z2 (by decide +kernel) ⟨_,rfl,q1,_,_,_,rfl,rfl,hq1,rfl,b,vy',e,_,rfl,iy,gde,by omega,by omega,by rw [kl]; omega,k2.at',fun H3 k3=>?_⟩
     exact ⟨_,rfl,_,rfl,_,rfl,last H3 k3⟩
   ·rintro σ H2 ⟨⟨o,rfl⟩,k2⟩
    rw [Nat.sub_self,List.drop_zero,List.drop_zero] at k2
    have el2:(ys++(bv (Yt ls es)).reverse).length=ys.length+(Yt ls es).length:=by rw [List.length_append,List.length_reverse,Zu]
    refine ⟨_,rfl,_,rfl,b,_,rfl,.inl (Yc.of k2.at'),_,rfl,_,_,rfl,rfl,((Yt ls es).length:Int), ?_,by omega,lt20 (by omega),fun r H3 s3 h3=>?_⟩
    ·have e9:(((ys++(bv (Yt ls es)).reverse).length:Nat):Int) - (ys.length:Int)=((Yt ls es).length:Int):=by rw [el2]; omega
     exact congrArg (fun z=>[V.int z]) e9
    refine ⟨b,r,_,bv (Lg (Yt ls es).length),rfl,s3 _ _ k2.at',.inl (Yg.of h3),by rw [el2,Zu]; omega,fun H4 k4=>?_⟩
    have k3:=k2.trans (k4.same s3)
    obtain ⟨si,sn⟩:=sIndex hs
    refine ⟨_,rfl,.inl ⟨rfl,_,Yc.of k3.at'⟩,so.ty _,_,rfl,aS,_,_,st+2,rfl,rfl,so.sq _,si,sn,b,_,_,rfl,rfl,k3.at', ?_, ?_⟩
    ·rw [List.length_append,el2,List.length_reverse,Zu]; exact Nat.lt_of_le_of_lt (show _<=3000000 by omega) (by decide)
    ·refine q _ ⟨fun x o n h=>by rw [Zh n]; exact k3.keep x o n h, ?_⟩
     rw [Zq]
     simp only [Ub,bv,List.map_cons,List.map_append,List.reverse_cons,List.reverse_append,List.append_assoc]
     rfl
end
def spPacked (K:W.Frag) (N:Nat):Sp:=fun vs H Q _=>∃ v it,vs=[v]/\Y1 K H (toD it) v/\GdI it/\dpI it<=N+1/\(Ub it).length<=1000000/\∀ (r:Addr) (H':Hp),Zt H H'->H' r=some (.tup (bv (Ub it)))->Q (.ref r) H'
def lbV:Lb->V
 | .no=>.non
 | .key x=>.str x
 | .num n=>.int n
def spKey (K:W.Frag):Sp:=fun vs H Q _=>∃ l,vs=[lbV l]/\((∃ x,l=.key x/\x.length<=1000)\/∃ n,l=.num n/\0<=n/\n<=1000000)/\∀ (r:Addr) (H':Hp),Zt H H'->Yg K H' r (bv (lbB l))->Q (.ref r) H'
def spLPack (K:W.Frag):Nat->Sp
 | 0=>fun _ _ _ _=>False
 | n+1=>fun vs H Q _=>∃ v it,vs=[v]/\Y1 K H (toD it) v/\GdI it/\dpI it<=n+1/\(Ub it).length<=1000000/\∀ (r:Addr) (H':Hp),Zt H H'->Yg K H' r (bv (Ub it))->Q (.ref r) H'
theorem byIs_take:∀ {ls:List Lb} {es:List IT} {j:Nat} {l:Lb} {e:IT},ls[j]?=some l->es[j]?=some e->Yt (ls.take (j+1)) (es.take (j+1))=Yt (ls.take j) (es.take j)++lbB l++Ub e
 | [],_,j,l,e,h,_=>by simp at h
 | _::_,[],j,l,e,_,h=>by simp at h
 | l0::ls,e0::es,0,l,e,h1,h2=>by
  simp at h1 h2
  subst h1 h2
  simp [Yt]
 | l0::ls,e0::es,j+1,l,e,h1,h2=>by
  have ih:=byIs_take (ls:=ls) (es:=es) (j:=j) (by simpa using h1) (by simpa using h2)
  rw [List.take_succ_cons,List.take_succ_cons,List.take_succ_cons,List.take_succ_cons]
  simp only [Yt]
  rw [ih]
  simp only [List.append_assoc]
theorem byIs_take_le:∀ (ls:List Lb) (es:List IT) (j:Nat),(Yt (ls.take j) (es.take j)).length<=(Yt ls es).length
 | [],_,j=>by simp [Yt]
 | _::_,[],j=>by cases j <;> simp [Yt]
 | l::ls,e::es,0=>by simp [Yt]
 | l::ls,e::es,j+1=>by
  have:=byIs_take_le ls es j
  rw [List.take_succ_cons,List.take_succ_cons]
  simp only [Yt,List.length_append]; omega
theorem sIndex3 {s:Nat} (hs:s<=2):(["row","map","rec"]:List Str)[s]?=some (srt s)/\∀ m,m<s->(["row","map","rec"]:List Str)[m]?≠some (srt s):=by
 match s,hs with
 | 0,_=>exact ⟨by decide +kernel,by decide +kernel⟩
 | 1,_=>exact ⟨by decide +kernel,by decide +kernel⟩
 | 2,_=>exact ⟨by decide +kernel,by decide +kernel⟩
section
variable {P:Program} {w:World} {K:W.Frag} {mg:Str->Option Value} {base:Heap} {f:Addr} {fd:FuncData} {aS:Addr}
theorem ok_packed {N:Nat} (F:Uf K "packed" "packed" s_packed f fd) (m:Bn mg) (g_pack_item:Fn P w K mg base (N+5) "pack_item" ["backwards","item"] (spPack K (N+1))):Yj P w K mg base CX0 (N+6) f fd ["item"] (spPacked K N):=by
 refine F.ok sc_packed (fun vs H Q E h=>?_) (fun cdv A outer s H vs Q E hr h=>?_)
 ·obtain ⟨v,it,rfl,_⟩:=h
  rfl
 obtain ⟨v,it,rfl,hd,gd,dp,lb,q⟩:=h
 refine ⟨_,(@Zj _ _ _ _ _ (@Zk _ 1 _ _ _ _ _ sc_packed.nd rfl (by trivial) (@Yf _ _ _ _ Zx) rfl (by trivial)) (@Zj _ _ _ _ _ (@Yz _ _ _ _ (@Zy _ _ _ _ _ _ _ _ _ _ g_pack_item hr.m rfl (Zf (pv 1) (Zf (pv 0) Zx rfl) rfl) (by decide) rfl rfl) rfl) (@Zv _ _ _ (@Zc _ _ _ _ (@pe_tupRev _ _ _ _ _ _ _ rfl rfl m.tuple rfl m.reversed (Zf (pv 1) Zx rfl) rfl rfl rfl))))), ?_⟩
 refine ⟨(sz 0),fun b hb=>?_⟩
 refine ⟨_,rfl,_,rfl,b,v,it,[],rfl,Y1.up (Zt.lay hb).up _ _ (Vq it) hd,gd,dp,lb,by rw [List.length_nil]; omega,Zq,fun H1 k1=>?_⟩
 refine ⟨_,rfl,b,_,rfl,Yc.of k1.at',fun p hp=>?_⟩
 have s1:Zt H H1:=fun x o h=>k1.keep x o (Z5 h hb) ((Zt.lay hb) _ _ h)
 refine q p _ (s1.put (s1.free hp)) ?_
 rw [Zq,List.nil_append,List.reverse_reverse]
theorem ok_law_key (F:Uf K "_law_key" "_law_key" s_law_key f fd) (m:Bn mg) (g_law_long:Fn P w K mg base 1 "_law_long" ["_law_n"] spLong):Yj P w K mg base CX0 2 f fd ["_law_key_here"] (spKey K):=by
 refine F.ok sc_law_key (fun vs H Q E h=>?_) (fun cdv A outer s H vs Q E hr h=>?_)
 ·obtain ⟨l,rfl,_⟩:=h
  rfl
 obtain ⟨l,rfl,hl,q⟩:=h
 refine ⟨_,(@Zj _ _ _ _ _ (@Ze _ _ _ _ _ _ _ _ (@pt_val _ _ _ (@Z9 _ _ _ _ _ _ _ _ _ call_isi rfl m.isinstance Uc (Zf (pv 0) (Zf (@pe_bltnT _ _ _ _ rfl m.str b_str (by decide) (by decide)) Zx rfl) rfl) (by decide) (by decide) rfl rfl) (by intro _; rfl)) (@Zv _ _ _ (@Zc _ _ _ _ (@Zg _ _ _ _ _ _ _ _ Vf (@Zy _ _ _ _ _ _ _ _ _ _ g_law_long hr.m rfl (Zf (@Z9 _ _ _ _ _ _ _ _ _ call_len_str rfl m.len b_len (Zf (pv 0) Zx rfl) (by decide) (by decide) rfl rfl) Zx rfl) (by decide) rfl rfl) (@Yn _ _ _ _ _ _ _ _ _ Yu rfl m.tuple b_tuple (Zf (@pe_compI _ N_law_key (Zb s_law_key) ["_law_sign"] [none] _ _ _ _ _ _ _ _ _ _ rfl (@pi_str _ _ _ _ (pv 0)) ⟨rfl,rfl,by decide +kernel,by decide +kernel⟩ (fun _ _ _=>(@Zo _ 0 _ _ (show List.Nodup (["_law_sign"]:List Str) from by decide +kernel) rfl (Or.inl rfl) (by trivial))) (fun _ _ _=>pts_nil) (fun _ _ _=>(@Z9 _ _ _ _ _ _ _ _ _ call_ord rfl m.ord b_ord (Zf (pv 0) Zx rfl) (by decide) (by decide) rfl rfl)) (by trivial)) Zx rfl) (by trivial) (by trivial) (by trivial) (by trivial))))) Zl) (@Zv _ _ _ (@Zc _ _ _ _ (@Zy _ _ _ _ _ _ _ _ _ _ g_law_long hr.m rfl (Zf (pv 0) Zx rfl) (by decide) rfl rfl)))), ?_⟩
 rcases hl with ⟨x,rfl,hx⟩ | ⟨n,rfl,h0,h1⟩
 ·have ll:=Uy x.length
  have lc:=codes_len x
  refine ⟨_,rfl,_,"str",_,true,rfl,TyOf.str x,rfl,_,rfl,Yv rfl ?_⟩
  refine ⟨_,rfl,x,rfl,Nat.le_trans hx (by decide),_,rfl,by omega,lt20 (by omega),fun r H1 s1 h1=>?_⟩
  refine ⟨_,rfl,x,rfl,fun D fp sx hD=>ord_comp (Nat.le_trans hx (by decide)) hD fun H2 s2 h2=>?_⟩
  refine ⟨D,_,rfl,.inl ⟨Yc.of h2,fun l hl=>?_⟩⟩
  have s3:=Zt.lay (o:=.tup (bv (codes x))) hl
  refine ⟨r,l,_,_,rfl,rfl,Yg.of ((s2.trans s3) _ _ h1),Yg.of Zq, ?_,fun p H' s' h'=>q p H' ((s1.trans (s2.trans s3)).trans s') ?_⟩
  ·rw [List.length_map,Zu]; exact Nat.le_trans (show _<=3000 by have:(Lf 19 x.length).length<=20:=ll; omega) (by decide)
  ·have e:bv (lbB (.key x))=(Lf 19 (x.length:Int)).map V.int++bv (codes x):=Uv _ _
   rw [e]
   exact h'
 ·refine ⟨_,rfl,_,"str",_,false,rfl,TyOf.int n,rfl,_,rfl,Z2 rfl ?_⟩
  exact ⟨_,rfl,n,rfl,h0,lt20 (by omega),fun r H1 s1 h1=>q r H1 s1 (Yg.of h1)⟩
theorem ok_law_packed (F:Uf K "_law_packed" "_law_packed" s_law_packed f fd) (m:Bn mg) (bd:Vc K fd ["_law_item_here"] []) (mf:mg "_law_packed" = some (.ref f)) (g_law_long:Fn P w K mg base 1 "_law_long" ["_law_n"] spLong)
  (g_law_key:Fn P w K mg base 2 "_law_key" ["_law_key_here"] (spKey K)):∀ n,Yj P w K mg base CX0 (n+3) f fd ["_law_item_here"] (spLPack K n)
 | 0=>⟨fun vs H Q E h=>h.elim,fun A outer s H args us vs Q E _ _ _ _ h=>h.elim⟩
 | n+1=>by
  have g_law_packed:Fn P w K mg base (n+3) "_law_packed" ["_law_item_here"] (spLPack K n):=⟨f,fd,ok_law_packed F m bd mf g_law_long g_law_key n,bd,F.kp,mf⟩
  refine F.ok V9 (fun vs H Q E h=>?_) (fun cdv A outer s H vs Q E hr h=>?_)
  ·obtain ⟨v,it,rfl,_⟩:=h
   rfl
  obtain ⟨v,it,rfl,hd,gd,dp,lb,q⟩:=h
  refine ⟨_,(@Zj _ _ _ _ _ (@Ze _ _ _ _ _ _ _ _ (@Zm _ _ _ _ _ _ _ _ Ym (@Za _ _ _ _ _ _ _ Yh (pv 0) Zz (fun _ _=>rfl)) Zp (Zd _)) (@Zv _ _ _ (@Zc _ _ _ _ (@Zg _ _ _ _ _ _ _ _ Vf (@Zn _ _ _ _ _ (Zf Zz Zx rfl)) (@Zy _ _ _ _ _ _ _ _ _ _ g_law_long hr.m rfl (Zf (@Za _ _ _ _ _ _ _ Z8 (@Yf _ _ _ _ (Zf (@Zg _ _ _ _ _ _ _ _ Vl Zz (@Za _ _ _ _ _ _ _ Yh (pv 0) Zz (fun _ _=>rfl))) (Zf (@Zg _ _ _ _ _ _ _ _ Y9 (@Zg _ _ _ _ _ _ _ _ Vl (@pe_un _ _ _ _ _ _ un_neg Zz) (@Za _ _ _ _ _ _ _ Yh (pv 0) Zz (fun _ _=>rfl))) Zz) Zx rfl) rfl)) (@Yn _ _ _ _ _ _ _ _ _ call_int1 rfl m.int b_int (Zf (@Vh _ _ _ _ _ _ _ _ op_lt (@Za _ _ _ _ _ _ _ Yh (pv 0) Zz (fun _ _=>rfl)) Zz (Zd _)) Zx rfl) (by trivial) (by trivial) (by trivial) (by trivial)) (fun _ _=>rfl)) Zx rfl) (by decide) rfl rfl)))) Zl) (@Zj _ _ _ _ _ (@Ze _ _ _ _ _ _ _ _ (@Zm _ _ _ _ _ _ _ _ Ym (@Za _ _ _ _ _ _ _ Yh (pv 0) Zz (fun _ _=>rfl)) Zp (Zd _)) (@Zv _ _ _ (@Zc _ _ _ _ (@Zg _ _ _ _ _ _ _ _ Vf (@Zn _ _ _ _ _ (Zf Zz Zx rfl)) (@Zy _ _ _ _ _ _ _ _ _ _ g_law_key hr.m rfl (Zf (@Za _ _ _ _ _ _ _ Yh (pv 0) Zz (fun _ _=>rfl)) Zx rfl) (by decide) rfl rfl)))) Zl) (@Zj _ _ _ _ _ (@Ze _ _ _ _ _ _ _ _ (@Zm _ _ _ _ _ _ _ _ Ym (@Za _ _ _ _ _ _ _ Yh (pv 0) Zz (fun _ _=>rfl)) Zp (Zd _)) (@Zv _ _ _ (@Zc _ _ _ _ (@Zg _ _ _ _ _ _ _ _ Vf (@Zg _ _ _ _ _ _ _ _ Vf (@Zn _ _ _ _ _ (Zf Zz Zx rfl)) (@Zy _ _ _ _ _ _ _ _ _ _ g_law_long hr.m rfl (Zf (@Za _ _ _ _ _ _ _ Yh (pv 0) Zz (fun _ _=>rfl)) Zx rfl) (by decide) rfl rfl)) (@Zy _ _ _ _ _ _ _ _ _ _ g_law_packed hr.m rfl (Zf (@Za _ _ _ _ _ _ _ Yh (pv 0) Zz (fun _ _=>rfl)) Zx rfl) (by decide) rfl rfl)))) Zl) (@Zj _ _ _ _ _ (@Zk _ 1 _ _ _ _ _ V9.nd rfl (by trivial) (@Zn _ _ _ _ _ Zx) rfl (by trivial)) (@Zj _ _ _ _ _ (@ps_for _ _ _ _ _ _ _ _ PassesOwn.never rfl (@pi_tup _ _ _ _ (@Za _ _ _ _ _ _ _ Yh (pv 0) Zz (fun _ _=>rfl))) (@Zo _ 2 _ _ V9.nd rfl (by trivial) (by trivial)) (@Zv _ _ _ (@Ze _ _ _ _ _ _ _ _ (@Zm _ _ _ _ _ _ _ _ Ym (@Za _ _ _ _ _ _ _ Yh (pv 0) Zz (fun _ _=>rfl)) Zp (Zd _)) (@Zv _ _ _ (@Zk _ 1 _ _ _ _ _ V9.nd rfl (by trivial) (@Zg _ _ _ _ _ _ _ _ Vf (pv 1) (@Zy _ _ _ _ _ _ _ _ _ _ g_law_packed hr.m rfl (Zf (pv 2) Zx rfl) (by decide) rfl rfl)) rfl (by trivial))) (@Zv _ _ _ (@Zk _ 1 _ _ _ _ _ V9.nd rfl (by trivial) (@Zg _ _ _ _ _ _ _ _ Vf (@Zg _ _ _ _ _ _ _ _ Vf (pv 1) (@Zy _ _ _ _ _ _ _ _ _ _ g_law_key hr.m rfl (Zf (@Za _ _ _ _ _ _ _ Yh (pv 2) Zz (fun _ _=>rfl)) Zx rfl) (by decide) rfl rfl)) (@Zy _ _ _ _ _ _ _ _ _ _ g_law_packed hr.m rfl (Zf (@Za _ _ _ _ _ _ _ Yh (pv 2) Zz (fun _ _=>rfl)) Zx rfl) (by decide) rfl rfl)) rfl (by trivial))))) (by trivial)) (@Zv _ _ _ (@Zc _ _ _ _ (@Zg _ _ _ _ _ _ _ _ Vf (@Zg _ _ _ _ _ _ _ _ Vf (@Zn _ _ _ _ _ (Zf (@Zg _ _ _ _ _ _ _ _ Yx (@pe_bm _ _ _ _ _ _ _ _ _ _ _ _ PySem.F.plainAttrs_list PySem.F.slot_list_index PySem.F.type_list_index mt_indexL (@Yf _ _ _ _ (Zf Zp (Zf Zp (Zf Zp Zx rfl) rfl) rfl)) (Zf (@Za _ _ _ _ _ _ _ Yh (pv 0) Zz (fun _ _=>rfl)) Zx rfl) (by trivial) (by trivial) (by trivial) (by trivial) (by trivial)) Zz) Zx rfl)) (@Zy _ _ _ _ _ _ _ _ _ _ g_law_long hr.m rfl (Zf (@Z9 _ _ _ _ _ _ _ _ _ Yy rfl m.len b_len (Zf (pv 1) Zx rfl) (by decide) (by decide) rfl rfl) Zx rfl) (by decide) rfl rfl)) (pv 1))))))))), ?_⟩
  have small:∀ m:Nat,m<=3000000->m<=sizeLine:=fun m h=>Nat.le_trans h (by decide)
  cases it with
  | whole k =>
   obtain ⟨p,x,y,rfl,hp,rfl,rfl⟩:=isD2 hd
   have ll:=Uy (fold k)
   refine ⟨_,rfl,p,_,_,_,rfl,rfl,hp,rfl,rfl,_,rfl,Yv (by decide +kernel) ?_⟩
   refine ⟨(sz 1),fun p0 hp0=>?_⟩
   have s0:Zt H (Z6 H p0 (.tup [.int 0])):=Zt.lay hp0
   have hp1:=s0.up _ _ hp
   refine ⟨_,rfl,p,_,_,_,rfl,rfl,hp1,rfl,_,_,rfl,rfl,.inl ⟨by decide,by decide⟩, ?_⟩
   refine ⟨_,rfl,_,rfl,p,_,_,_,rfl,rfl,hp1,rfl,_,_,rfl,rfl,.inl ⟨by decide,by decide⟩,_,_,rfl,rfl, ?_⟩
   refine ⟨(sz 2),fun l hl=>?_⟩
   have s1:=s0.trans (Zt.lay (o:=.lst [.int (2 * k),.int (-2 * k - 1)]) hl)
   have hp2:=s1.up _ _ hp
   refine ⟨_,rfl,p,_,_,_,rfl,rfl,hp2,rfl,_,_,rfl,rfl,.inr ⟨_,rfl, ?_⟩⟩
   refine ⟨l,_,_,.int (fold k),rfl,rfl,Yc.of Zq, ?_, ?_⟩
   ·by_cases hk:k<0
    ·have e:fold k=-2 * k - 1:=by unfold fold; rw [if_neg (by omega)]
     rw [decide_eq_true hk,e]
     rfl
    ·have e:fold k=2 * k:=by unfold fold; rw [if_pos (by omega)]
     rw [decide_eq_false hk,e]
     rfl
   refine ⟨_,rfl,fold_nn k,lt20 (Int.le_trans (fold_le gd.1 gd.2) (by decide)),fun r H2 s2 h2=>?_⟩
   refine ⟨p0,r,_,_,rfl,rfl,Yg.of (s2 _ _ ((Zt.lay hl) _ _ Zq)),Yg.of h2, ?_,fun p' H' s' h'=>q p' H' ((s1.trans s2).trans s') h'⟩
   rw [List.length_map,List.length_singleton]; exact small _ (by have:(Lf 19 (fold k)).length<=20:=ll; omega)
  | text x =>
   obtain ⟨p,vx,y,rfl,hp,rfl,rfl⟩:=isD2 hd
   have ll:=sgB_len x
   have lx:=gd.1
   refine ⟨_,rfl,p,_,_,_,rfl,rfl,hp,rfl,rfl,_,rfl,Z2 (by decide +kernel) ?_⟩
   refine ⟨_,rfl,p,_,_,_,rfl,rfl,hp,rfl,rfl,_,rfl,Yv (by decide +kernel) ?_⟩
   refine ⟨(sz 1),fun p0 hp0=>?_⟩
   have s0:Zt H (Z6 H p0 (.tup [.int 1])):=Zt.lay hp0
   refine ⟨_,rfl,p,_,_,_,rfl,rfl,s0.up _ _ hp,rfl,.key x,rfl,.inl ⟨x,rfl,by omega⟩,fun r H2 s2 h2=>?_⟩
   refine ⟨p0,r,_,_,rfl,rfl,Yg.of (s2 _ _ Zq),h2, ?_,fun p' H' s' h'=>q p' H' ((s0.trans s2).trans s') h'⟩
   rw [Zu,List.length_singleton]; exact small _ (by show 1+(sgB x).length<=_; omega)
  | arm k e =>
   obtain ⟨p,vx,y,z,rfl,hp,rfl,rfl,hz⟩:=isD3 hd
   have ll:=Uy k
   have lb':(Ub (.arm k e)).length=(Lg k).length+(Ub e).length+1:=by simp only [Ub,List.length_cons,List.length_append]
   have de:dpI e+1<=n+1:=dp
   have e1:1<=dpI e:=by cases e <;> simp only [dpI] <;> omega
   obtain ⟨n',rfl⟩:∃ n',n=n'+1:=⟨n - 1,by omega⟩
   refine ⟨_,rfl,p,_,_,_,rfl,rfl,hp,rfl,rfl,_,rfl,Z2 (by decide +kernel) ?_⟩
   refine ⟨_,rfl,p,_,_,_,rfl,rfl,hp,rfl,rfl,_,rfl,Z2 (by decide +kernel) ?_⟩
   refine ⟨_,rfl,p,_,_,_,rfl,rfl,hp,rfl,rfl,_,rfl,Yv (by decide +kernel) ?_⟩
   refine ⟨(sz 1),fun p0 hp0=>?_⟩
   have s0:Zt H (Z6 H p0 (.tup [.int 5])):=Zt.lay hp0
   refine ⟨_,rfl,p,_,_,_,rfl,rfl,s0.up _ _ hp,rfl,k,rfl,by have:=gd.1; omega,lt20 (by have:=gd.2.1; omega),fun r H2 s2 h2=>?_⟩
   refine ⟨p0,r,_,_,rfl,rfl,Yg.of (s2 _ _ Zq),Yg.of h2, ?_,fun p1 H3 s3 h3=>?_⟩
   ·rw [List.length_map,List.length_singleton]; exact small _ (by have:(Lf 19 k).length<=20:=ll; omega)
   have s03:=(s0.trans s2).trans s3
   refine ⟨_,rfl,p,_,_,_,rfl,rfl,s03.up _ _ hp,rfl,z,e,rfl,Y1.up s03.up _ _ (Vq e) hz,gd.2.2,by omega,by omega,fun r4 H4 s4 h4=>?_⟩
   refine ⟨p1,r4,_,_,rfl,rfl,s4.up _ _ h3,h4, ?_,fun p' H' s' h'=>q p' H' ((s03.trans s4).trans s') ?_⟩
   ·rw [List.length_append,List.length_map,List.length_singleton,Zu]; exact small _ (by have:(Lf 19 k).length<=20:=ll; omega)
   ·have e9:bv (Ub (.arm k e))=[V.int 5]++(Lf 19 k).map V.int++bv (Ub e):=by
     simp only [Ub,bv,List.map_cons,List.map_append,List.append_assoc]; rfl
    rw [e9]; exact h'
  | lst st ls es =>
   obtain ⟨hs,hl,gl,ge⟩:=gd
   obtain ⟨p,vx,y,rfl,hp,rfl,pp,ws,rfl,hpp,ar⟩:=isD2 hd
   obtain ⟨n1,n2,n3⟩:=srt_ne st
   have hlen:es.length=ws.length:=by rw [<-ar.length,prtDs_len (by rw [V7,List.length_map]; exact hl),V7,List.length_map]
   have ll:=Uy (Yt ls es).length
   have lb':(Ub (.lst st ls es)).length=(Lg (Yt ls es).length).length+(Yt ls es).length+1:=by simp only [Ub,List.length_cons,List.length_append]
   refine ⟨_,rfl,p,_,_,_,rfl,rfl,hp,rfl,rfl,_,rfl,Z2 (vs_ne n1) ?_⟩
   refine ⟨_,rfl,p,_,_,_,rfl,rfl,hp,rfl,rfl,_,rfl,Z2 (vs_ne n2) ?_⟩
   refine ⟨_,rfl,p,_,_,_,rfl,rfl,hp,rfl,rfl,_,rfl,Z2 (vs_ne n3) ?_⟩
   refine ⟨(sz 0),fun p0 hp0=>?_⟩
   have s0:Zt H (Z6 H p0 (.tup [])):=Zt.lay hp0
   refine ⟨_,rfl,p,_,_,_,rfl,rfl,s0.up _ _ hp,rfl,pp,rfl,⟨_,s0.up _ _ hpp⟩,for_tup (xs:=ws) (fun i σ H2=>(∃ o a,σ=[some (.ref p),some (.ref a),o]/\Yg K H2 a (bv (Yt (ls.take i) (es.take i))))/\Zt H H2) ⟨⟨_,_,rfl,Yg.of Zq⟩,s0⟩ ?_ ?_ ?_⟩
   ·rintro i σ H2 hi ⟨_,k2⟩
    exact k2.up _ _ hpp
   ·rintro i x σ H2 hx ⟨⟨o,a,rfl,ha⟩,k2⟩
    have hi:i<ws.length:=(List.getElem?_eq_some_iff.mp hx).1
    have hje:i<es.length:=by omega
    have hjl:i<ls.length:=by omega
    obtain ⟨d,ed,id'⟩:=areD_got ar hx
    have el:ls[i]?=some ls[i]:=List.getElem?_eq_getElem hjl
    have ee:es[i]?=some es[i]:=List.getElem?_eq_getElem hje
    have ed2:=prtDs_get (ds:=toDs es) el (by rw [V7,List.getElem?_map,ee]; rfl)
    rw [ed] at ed2
    cases ed2
    have ml:ls[i]∈ls:=List.getElem_mem hjl
    have me:es[i]∈es:=List.getElem_mem hje
    have tk:Yt (ls.take (i+1)) (es.take (i+1))=Yt (ls.take i) (es.take i)++lbB ls[i]++Ub es[i]:=byIs_take el ee
    have tkl:=byIs_take_le ls es (i+1)
    generalize ls[i]=l at el ml id' ed tk
    generalize es[i]=e at ee me id' ed tk
    have hls:=gl.at hs l ml
    have gde:=GdIs_all.mp ge e me
    have dd:dpI e+1<=n+1:=by have:=dpI_mem me; simp only [dpI] at dp; omega
    have e1:1<=dpI e:=by cases e <;> simp only [dpI] <;> omega
    obtain ⟨n',rfl⟩:∃ n',n=n'+1:=⟨n - 1,by omega⟩
    rw [tk] at tkl
    simp only [List.length_append] at tkl
    have idH:=Y1.up k2.up _ _ (noLs_mem (Y8 ls es) (List.mem_of_getElem? ed)) id'
    refine ⟨_,rfl,p,_,_,_,rfl,rfl,k2.up _ _ hp,rfl,rfl,_,rfl, ?_⟩
    rcases hls with ⟨rfl,rfl⟩ | hls
    ·refine Yv (by decide +kernel) ⟨_,rfl,_,rfl,x,e,rfl,idH,gde,by omega,by omega,fun r H3 s3 h3=>?_⟩
     refine ⟨a,r,_,_,rfl,rfl,s3.up _ _ ha,h3, ?_,fun p1 H4 s4 h4=>⟨⟨_,p1,rfl, ?_⟩,(k2.trans s3).trans s4⟩⟩
     ·rw [Zu,Zu]; exact small _ (by omega)
     ·rw [tk,Uv,Uv]
      show Yg K H4 p1 (bv (Yt (ls.take i) (es.take i))++[]++bv (Ub e))
      rw [List.append_nil]; exact h4
    ·have two:∃ x' e',prtD l (toD e)=.tup [x',toD e]/\(∀ v H,Y1 K H x' v->v=lbV l)/\((∃ x,l=.key x/\x.length<=1000)\/∃ n,l=.num n/\0<=n/\n<=1000000)/\decide (V.str (srt st)=V.str "row")=e'/\e'=false:=by
      rcases hls with ⟨rfl,x',rfl,nx⟩ | ⟨rfl,n'',rfl,n0,n1⟩
      ·exact ⟨.str x',_,rfl,fun v H h=>h,.inl ⟨x',rfl,by have:=nx.2.1; omega⟩,rfl,by decide +kernel⟩
      ·exact ⟨.int n'',_,rfl,fun v H h=>h,.inr ⟨n'',rfl,by omega,by omega⟩,rfl,by decide +kernel⟩
     obtain ⟨x',e',ep,xv,lk,er,rfl⟩:=two
     rw [ep] at idH
     obtain ⟨q1,vx',vy',rfl,hq1,ix,iy⟩:=isD2 idH
     cases xv _ _ ix
     refine Z2 er ⟨_,rfl,_,rfl,q1,_,_,_,rfl,rfl,hq1,rfl,l,rfl,lk,fun r H3 s3 h3=>?_⟩
     refine ⟨a,r,_,_,rfl,rfl,s3.up _ _ ha,h3, ?_,fun p1 H4 s4 h4=>?_⟩
     ·rw [Zu,Zu]; exact small _ (by omega)
     have s34:=s3.trans s4
     refine ⟨_,rfl,q1,_,_,_,rfl,rfl,s34.up _ _ hq1,rfl,vy',e,rfl,Y1.up s34.up _ _ (Vq e) iy,gde,by omega,by omega,fun r5 H5 s5 h5=>?_⟩
     refine ⟨p1,r5,_,_,rfl,rfl,s5.up _ _ h4,h5, ?_,fun p2 H6 s6 h6=>⟨⟨_,p2,rfl, ?_⟩,((k2.trans s34).trans s5).trans s6⟩⟩
     ·rw [List.length_append,Zu,Zu,Zu]; exact small _ (by omega)
     ·rw [tk,Uv,Uv]; exact h6
   ·rintro σ H2 ⟨⟨o,a,rfl,ha⟩,k2⟩
    rw [<-hlen,List.take_length, <-hl,List.take_length] at ha
    refine ⟨(sz 3),fun l3 hl3=>?_⟩
    have s3:=Zt.lay (o:=.lst [.str "row",.str "map",.str "rec"]) hl3
    have k3:=k2.trans s3
    refine ⟨.inl ⟨rfl,_,Yc.of Zq⟩,_,rfl,p,_,_,_,rfl,rfl,k3.up _ _ hp,rfl, ?_⟩
    refine ⟨l3,["row","map","rec"],srt st,st,rfl,rfl,Yc.of Zq,(sIndex3 hs).1,(sIndex3 hs).2,_,_,rfl,rfl, ?_⟩
    refine ⟨(sz 1),fun p4 hp4=>?_⟩
    have s4:=Zt.lay (o:=.tup [.int ((st:Int)+2)]) hp4
    have ha4:=(s3.trans s4).up (K:=K) _ _ ha
    refine ⟨_,rfl,a,_,rfl,.inr ha4,_,rfl,by omega,lt20 (by rw [Zu]; omega),fun r5 H5 s5 h5=>?_⟩
    rw [Zu] at h5
    refine ⟨p4,r5,_,_,rfl,rfl,Yg.of (s5 _ _ Zq),Yg.of h5, ?_,fun p6 H6 s6 h6=>?_⟩
    ·rw [List.length_map,List.length_singleton]; exact small _ (by have:(Lf 19 ((Yt ls es).length:Int)).length<=20:=ll; omega)
    refine ⟨_,rfl,p6,a,_,_,rfl,rfl,h6,(s5.trans s6).up _ _ ha4, ?_,fun p' H' s' h'=>q p' H' ((((k3.trans s4).trans s5).trans s6).trans s') ?_⟩
    ·rw [List.length_append,List.length_map,List.length_singleton,Zu]; exact small _ (by have:(Lf 19 ((Yt ls es).length:Int)).length<=20:=ll; omega)
    ·have e9:bv (Ub (.lst st ls es))=[V.int ((st:Int)+2)]++(Lf 19 ((Yt ls es).length:Int)).map V.int++bv (Yt ls es):=by
      simp only [Ub,bv,List.map_cons,List.map_append,List.append_assoc]; rfl
     rw [e9]; exact h'
end
inductive Rs (α:Type) where
 | ok (x:α) (p:Nat) | no (p:Nat)
def rLong (bs:List Int) (most:Int):Nat->Int->Int->Bool->Nat->Rs Int
 | 0,_,_,_,p=>.no p
 | k+1,sc,n,f,p =>
  let c:=bs.getD p 0
  if n+c % 128 * sc>most\/(c=0/\f=false) then .no p else if c<128 then .ok (n+c % 128 * sc) (p+1) else rLong bs most k (sc * 128) (n+c % 128 * sc) false (p+1)
def Z7 (bs:List Int) (most:Int) (p e:Nat):Rs Int:=rLong bs most (e - p) 1 0 true p
def Vg (bs:List Int) (g:Int->Bool) (e:Nat):Nat->Nat->Rs (List Nat)
 | 0,p=>.ok [] p
 | k+1,p=>if p<e/\g (bs.getD p 0)=true then (match Vg bs g e k (p+1) with | .ok xs q=>.ok ((bs.getD p 0).toNat::xs) q | .no q=>.no q) else .no p
def Ug (c:Int):Bool:=decide (32<=c/\c<=126/\c≠37)
def gLow (c:Int):Bool:=decide (97<=c/\c<=122)
def sOf (xs:List Nat):Str:=⟨xs.toArray⟩
def rText (bs:List Int) (p e:Nat):Rs Str:=match Z7 bs 200 p e with
 | .no q=>.no q
 | .ok v q=>match Vg bs Ug e v.toNat q with
  | .no q'=>.no q'
  | .ok xs q'=>.ok (sOf xs) q'
def rNum (bs:List Int) (last:Int) (p e:Nat):Rs Int:=match Z7 bs 999 p e with
 | .no q=>.no q
 | .ok v q=>if last<v then .ok v q else .no (q - 1)
def rKey (bs:List Int) (last:Str) (p e:Nat):Rs Str:=match Z7 bs 8 p e with
 | .no q=>.no q
 | .ok v q=>if 0<v then (match Vg bs gLow e v.toNat q with
   | .no q'=>.no q'
   | .ok xs q'=>if last.cps.toList<xs then .ok (sOf xs) q' else .no (q' - 1)) else .no (q - 1)
def rLab (bs:List Int):Nat->Lb->Nat->Nat->Rs Lb
 | 1,l,p,e=>match rKey bs (match l with | .key x=>x | _ => "") p e with | .ok x q=>.ok (.key x) q | .no q=>.no q
 | 2,l,p,e=>match rNum bs (match l with | .num n=>n | _=>0) p e with | .ok n q=>.ok (.num n) q | .no q=>.no q
 | _,_,p,_=>.ok .no p
def V2 (bs:List Int) (f:Nat->Nat->Rs IT) (s:Nat) (e:Nat):Nat->Lb->Nat->Rs (List Lb × List IT)
 | 0,_,p=>.ok ([],[]) p
 | k+1,l,p=>if p<e then (match rLab bs s l p e with
   | .no q=>.no q
   | .ok l' q=>match f q e with
    | .no q'=>.no q'
    | .ok it q'=>match V2 bs f s e k l' q' with
     | .no r=>.no r
     | .ok (ls,es) r=>.ok (l'::ls,it::es) r) else .ok ([],[]) p
def unf (v:Int):Int:=if v % 2=0 then v / 2 else -(v+1) / 2
def lb0:Nat->Lb
 | 1=>.key "" | 2=>.num 0 | _=>.no
def Yl (bs:List Int):Nat->Nat->Nat->Rs IT
 | 0,p,_=>.no p
 | d+1,p,e=>if p<e then
   let h:=bs.getD p 0
   if h=0 then (match Z7 bs 2000000000000000000 (p+1) e with | .ok v q=>.ok (.whole (unf v)) q | .no q=>.no q)
   else if h=1 then (match rText bs (p+1) e with | .ok x q=>.ok (.text x) q | .no q=>.no q)
   else if h=5 then (match rNum bs 0 (p+1) e with
    | .no q=>.no q
    | .ok n q=>match Yl bs d q e with | .ok it r=>.ok (.arm n it) r | .no r=>.no r)
   else if h=2\/h=3\/h=4 then (match Z7 bs 1000000 (p+1) e with
    | .no q=>.no q
    | .ok v q=>if v<=(e:Int) - (q:Int) then
      (match V2 bs (fun p e=>Yl bs d p e) (h - 2).toNat (q+v.toNat) v.toNat (lb0 (h - 2).toNat) q with
       | .ok (ls,es) r=>.ok (.lst (h - 2).toNat ls es) r
       | .no r=>.no r) else .no (q - 1))
   else .no p
  else .no p
def rFile (bs:List Int):Rs IT:=match Yl bs 100 0 bs.length with
 | .no q=>.no q
 | .ok it q=>if q<bs.length then .no q else .ok it q
def Byt (bs:List Int):Prop:=∀ b∈bs,0<=b/\b<=255
theorem Byt.at {bs:List Int} (h:Byt bs) {p:Nat} (hp:p<bs.length):bs[p]?=some (bs.getD p 0)/\0<=bs.getD p 0/\bs.getD p 0<=255:=by
 have e:bs[p]?=some bs[p]:=List.getElem?_eq_getElem hp
 rw [List.getD_eq_getElem?_getD,e]
 exact ⟨rfl,h _ (List.getElem_mem hp)⟩
theorem rLong_pos {bs:List Int} {most:Int}:∀ {k:Nat} {sc n:Int} {f:Bool} {p:Nat} {v:Int} {q:Nat},rLong bs most k sc n f p=.ok v q->p<q/\q<=p+k/\v<=most
 | 0,_,_,_,_,_,_,h=>by cases h
 | k+1,sc,n,f,p,v,q,h=>by
  unfold rLong at h
  simp only at h
  split at h
  ·cases h
  ·rename_i c
   split at h
   ·cases h
    exact ⟨by omega,by omega,by omega⟩
   ·obtain ⟨a,b,c⟩:=rLong_pos h
    exact ⟨by omega,by omega,c⟩
theorem Z4 {bs:List Int} {most:Int} {p e:Nat} {v:Int} {q:Nat} (h:Z7 bs most p e=.ok v q):p<q/\q<=e/\v<=most:=by
 obtain ⟨a,b,c⟩:=rLong_pos h
 exact ⟨a,by omega,c⟩
theorem rLong_nn {bs:List Int} {most:Int} (B:Byt bs):∀ {k:Nat} {sc n:Int} {f:Bool} {p:Nat} {v:Int} {q:Nat},0<=sc->0<=n->p+k<=bs.length->rLong bs most k sc n f p=.ok v q->0<=v
 | 0,_,_,_,_,_,_,_,_,_,h=>by cases h
 | k+1,sc,n,f,p,v,q,h1,h2,h3,h=>by
  have b:=(B.at (p:=p) (by omega)).2
  unfold rLong at h
  simp only at h
  have nn:0<=bs.getD p 0 % 128 * sc:=Int.mul_nonneg (by omega) h1
  split at h
  ·cases h
  ·split at h
   ·cases h; omega
   ·exact rLong_nn B (by omega) (by omega) (by omega) h
theorem Vn {bs:List Int} {most:Int} {p e:Nat} {v:Int} {q:Nat} (B:Byt bs) (he:e<=bs.length) (h:Z7 bs most p e=.ok v q):0<=v:=by
 by_cases c:p<=e
 ·exact rLong_nn B (by omega) (by omega) (by omega) h
 ·unfold Z7 at h
  rw [show e - p=0 by omega] at h
  cases h
abbrev s_BadByte_init:Stmt:=Vp (top 2) 0
abbrev N_BadByte_init:List Str:=["self","at"]
theorem sc_BadByte_init:Zr N_BadByte_init ["self","at"] (Zb s_BadByte_init):=by trivial
abbrev s_Reader_init:Stmt:=Vp (top 32) 0
abbrev N_Reader_init:List Str:=["self","source","at","end"]
theorem sc_Reader_init:Zr N_Reader_init ["self","source","at","end"] (Zb s_Reader_init):=by trivial
abbrev Uw:Stmt:=Vp (top 32) 1
abbrev N_Reader_next_byte:List Str:=["self"]
theorem sc_Reader_next_byte:Zr N_Reader_next_byte ["self"] (Zb Uw):=by trivial
abbrev s_Reader_must:Stmt:=Vp (top 32) 2
abbrev N_Reader_must:List Str:=["self","right"]
theorem sc_Reader_must:Zr N_Reader_must ["self","right"] (Zb s_Reader_must):=by trivial
abbrev Uj:Stmt:=Vp (top 32) 3
abbrev N_Reader_next_long:List Str:=["self","most","n","unit","more","code"]
theorem Yw:Zr N_Reader_next_long ["self","most"] (Zb Uj):=by trivial
abbrev V5:Stmt:=Vp (top 32) 4
abbrev N_Reader_enter_room:List Str:=["self","around","size"]
theorem Va:Zr N_Reader_enter_room ["self"] (Zb V5):=by trivial
abbrev V4:Stmt:=Vp (top 32) 5
abbrev N_Reader_leave_room:List Str:=["self","around"]
theorem sc_Reader_leave_room:Zr N_Reader_leave_room ["self","around"] (Zb V4):=by trivial
abbrev s_unfolded:Stmt:=top 31
abbrev N_unfolded:List Str:=["n"]
theorem sc_unfolded:Zr N_unfolded ["n"] (Zb s_unfolded):=by trivial
abbrev s_next_sign:Stmt:=top 37
abbrev N_next_sign:List Str:=["reader","code"]
theorem sc_next_sign:Zr N_next_sign ["reader"] (Zb s_next_sign):=by trivial
abbrev s_next_letter:Stmt:=top 38
abbrev N_next_letter:List Str:=["reader","code"]
theorem sc_next_letter:Zr N_next_letter ["reader"] (Zb s_next_letter):=by trivial
abbrev s_next_text:Stmt:=top 36
abbrev N_next_text:List Str:=["reader","signs","place"]
theorem sc_next_text:Zr N_next_text ["reader"] (Zb s_next_text):=by trivial
abbrev s_next_number:Stmt:=top 40
abbrev N_next_number:List Str:=["reader","last","number"]
theorem sc_next_number:Zr N_next_number ["reader","last"] (Zb s_next_number):=by trivial
abbrev s_next_key:Stmt:=top 41
abbrev N_next_key:List Str:=["reader","last","many","key","place"]
theorem sc_next_key:Zr N_next_key ["reader","last"] (Zb s_next_key):=by trivial
abbrev s_next_label:Stmt:=top 39
abbrev N_next_label:List Str:=["reader","sort","last"]
theorem sc_next_label:Zr N_next_label ["reader","sort","last"] (Zb s_next_label):=by trivial
abbrev s_next_item:Stmt:=top 35
abbrev N_next_item:List Str:=["reader","deep","head","sort","number","parts","label","around","inner"]
theorem Y2:Zr N_next_item ["reader","deep"] (Zb s_next_item):=by trivial
abbrev Uq:Stmt:=top 34
abbrev N_unpacked_between:List Str:=["file","begin","end","reader","item"]
theorem V3:Zr N_unpacked_between ["file","begin","end"] (Zb Uq):=by trivial
abbrev s_unpacked:Stmt:=top 33
abbrev N_unpacked:List Str:=["file"]
theorem sc_unpacked:Zr N_unpacked ["file"] (Zb s_unpacked):=by trivial
def Kp (r:Addr) (H H':Hp):Prop:=∀ x o,x≠r->H x=some o->H' x=some o
theorem Kp.refl {r:Addr} (H:Hp):Kp r H H:=fun _ _ _ h=>h
theorem Kp.trans {r:Addr} {H H1 H2:Hp} (a:Kp r H H1) (b:Kp r H1 H2):Kp r H H2:=fun x o n h=>b x o n (a x o n h)
theorem Kp.same {r:Addr} {H H1:Hp} (a:Zt H H1):Kp r H H1:=fun x o _ h=>a x o h
def fsR (s:V) (a e:Nat):List (Str × V):=[("source",s),("at",.int a),("end",.int e)]
structure Rd (K:W.Frag) (C r sA:Addr) (bs:List Int) (H:Hp) (a e:Nat):Prop where
 ex:∃ dx,H r=some (.ins C dx (fsR (.ref sA) a e))/\(Yc K H sA (bv bs)\/Yg K H sA (bv bs))
theorem Kp.up {K:W.Frag} {C r dx:Addr} {fs:List (Str × V)} {H H':Hp} (k:Kp r H H') (h:H r=some (.ins C dx fs)):Up K H H':=fun c xs q=>by
 have ne:∀ u,H c=some u->(∀ C dx fs,u≠.ins C dx fs)->c≠r:=fun u e n z=>by
  rw [z,h] at e
  cases e
  exact n _ _ _ rfl
 rcases q with (q | ⟨u,q⟩) | q
 ·exact .inl (.inl (k _ _ (ne _ q fun _ _ _ z=>nomatch z) q))
 ·exact .inl (.inr ⟨u,k _ _ (ne _ q fun _ _ _ z=>nomatch z) q⟩)
 ·exact .inr q
theorem Kp.upL {K:W.Frag} {C r dx:Addr} {fs:List (Str × V)} {H H':Hp} (k:Kp r H H') (h:H r=some (.ins C dx fs)) {c:Addr} {xs:List V} (q:Yc K H c xs):Yc K H' c xs:=by
 have ne:∀ u,H c=some u->(∀ C dx fs,u≠.ins C dx fs)->c≠r:=fun u e n z=>by
  rw [z,h] at e
  cases e
  exact n _ _ _ rfl
 rcases q with (q | ⟨u,q⟩) | q
 ·exact .inl (.inl (k _ _ (ne _ q fun _ _ _ z=>nomatch z) q))
 ·exact .inl (.inr ⟨u,k _ _ (ne _ q fun _ _ _ z=>nomatch z) q⟩)
 ·exact .inr q
theorem Kp.sq {K:W.Frag} {C r dx sA:Addr} {fs:List (Str × V)} {H H':Hp} {xs:List V} (k:Kp r H H') (h:H r=some (.ins C dx fs)) (q:Yc K H sA xs\/Yg K H sA xs):Yc K H' sA xs\/Yg K H' sA xs:=by
 rcases q with q | q
 ·exact .inl (k.upL h q)
 ·exact .inr (k.up h _ _ q)
theorem Kp.put {r:Addr} {H H1:Hp} (k:Kp r H H1) (o:HO):Kp r H (Z6 H1 r o):=fun x u n h=>by rw [Zh n]; exact k x u n h
theorem Rd.same {K:W.Frag} {C r sA:Addr} {bs:List Int} {H H':Hp} {a e:Nat} (d:Rd K C r sA bs H a e) (s:Zt H H'):Rd K C r sA bs H' a e:=by
 obtain ⟨dx,h,q⟩:=d.ex
 exact ⟨dx,s _ _ h,(Kp.same s).sq h q⟩
theorem Rd.up {K:W.Frag} {C r sA:Addr} {bs:List Int} {H H':Hp} {a e:Nat} (d:Rd K C r sA bs H a e) (k:Kp r H H'):Up K H H':=by
 obtain ⟨dx,h,q⟩:=d.ex
 exact k.up h
theorem Rd.keep {K:W.Frag} {C r sA:Addr} {bs:List Int} {H H':Hp} {a e a' e':Nat} (d:Rd K C r sA bs H a e) (k:Kp r H H') (h':∃ dx,H' r=some (.ins C dx (fsR (.ref sA) a' e'))):Rd K C r sA bs H' a' e':=by
 obtain ⟨dx,h,q⟩:=d.ex
 obtain ⟨dx',h'⟩:=h'
 exact ⟨dx',h',k.sq h q⟩
theorem Rd.ne {K:W.Frag} {C r sA:Addr} {bs:List Int} {H:Hp} {a e:Nat} (d:Rd K C r sA bs H a e) {p:Addr} {xs:List V} (h:H p=some (.lst xs)):p≠r:=fun z=>by
 obtain ⟨dx,h',q⟩:=d.ex
 rw [z,h'] at h
 cases h
structure RdOk (K:W.Frag) (C:Addr):Prop where
 cl:Cls K C
 source:V6 K C "source"
 at':V6 K C "at"
 end':V6 K C "end"
structure RE (K:W.Frag) (C r sA:Addr) (bs:List Int) (H:Hp) (a e:Nat):Prop where
 rd:Rd K C r sA bs H a e
 le:a<=e
 ln:e<=bs.length
 by':Byt bs
def BB (CB:Addr) (E:XK) (r:Addr) (H:Hp) (n:Nat):Prop:=∀ (d:Addr) (H':Hp),Kp r H H'->H' d=some (DHO d [("at",.int (n:Int))])->E (.ref CB) (some d) H'
theorem BB.kp {CB:Addr} {E:XK} {r:Addr} {H H1:Hp} {n:Nat} (b:BB CB E r H n) (k:Kp r H H1):BB CB E r H1 n:=fun d H' k' h=>b d H' (k.trans k') h
def spXInit (C:Addr):Sp:=fun vs H Q _=>∃ x y,vs=[.ref x,y]/\H x=some (XHO x C none true) /\
 ∀ (d:Addr) (H':Hp),H d=none->d≠x->(∀ b,b≠x->b≠d->H' b=H b)->H' x=some (XHO x C (some d) true)->H' d=some (DHO d [("at",y)])->Q .non H'
theorem bb_raise {K:W.Frag} {C:Addr} {E E':XK} {r:Addr} {H:Hp} {k:Nat} {y:V} (c:XCls K C) (n:BB C E r H k) (ey:y=V.int (k:Int)):([y]:List V).length<=100/\∀ x,H x=none->spXInit C (.ref x::[y]) (Z6 H x (XHO x C none true)) (fun v H2=>v=.non/\∃ a C' od,V.ref x=.ref a/\H2 a=some (XHO a C' od true)/\XCls K C'/\E (.ref C') od (Z6 H2 a (XHO a C' od false))) E':=by
 subst ey
 refine ⟨(by show 1<=100; decide),fun x hx=>⟨x,_,rfl,Zq,fun d H' hd nd keep hx' hd'=>⟨rfl,x,C,some d,rfl,hx',c,n d _ (Kp.same fun b o e=>?_) ?_⟩⟩⟩
 ·have b1:b≠x:=fun z=>by rw [z,hx] at e; cases e
  have b2:b≠d:=fun z=>by rw [Zh nd, <-z,e] at hd; cases hd
  rw [Zh b1,keep b b1 b2,Zh b1]; exact e
 ·rw [Zh nd]; exact hd'
def Out {α:Type} (K:W.Frag) (C CB r sA:Addr) (bs:List Int) (H:Hp) (e:Nat) (val:α->V->Hp->Prop) (Q:VK) (E:XK):Rs α->Prop
 | .ok x q=>∀ (v:V) (H':Hp),Kp r H H'->RE K C r sA bs H' q e->val x v H'->Q v H'
 | .no q=>BB CB E r H q
def vI:Int->V->Hp->Prop:=fun n v _=>v=.int n
def spInit (K:W.Frag) (C:Addr):Sp:=fun vs H Q _=>∃ r dx x a e,vs=[.ref r,x,.int a,.int e]/\H r=some (.ins C dx [])/\Q .non (Z6 (Z6 (Z6 H r (.ins C dx [("source",x)])) r (.ins C dx [("source",x),("at",.int a)])) r (.ins C dx [("source",x),("at",.int a),("end",.int e)]))
def spNByte (K:W.Frag) (C CB:Addr):Sp:=fun vs H Q E=>∃ r sA bs a e,vs=[.ref r]/\RE K C r sA bs H a e/\(a=e->BB CB E r H e)/\(a<e->∀ H',Kp r H H'->RE K C r sA bs H' (a+1) e->Q (.int (bs.getD a 0)) H')
def spMust (K:W.Frag) (C CB:Addr):Sp:=fun vs H Q E=>∃ r sA bs a e b,vs=[.ref r,.bl b]/\RE K C r sA bs H a e/\1<=a/\(b=true->Q .non H)/\(b=false->BB CB E r H (a - 1))
def spNLong (K:W.Frag) (C CB:Addr):Sp:=fun vs H Q E=>∃ r sA bs a e m,vs=[.ref r,.int m]/\RE K C r sA bs H a e/\8<=m/\m<=2000000000000000000/\Out K C CB r sA bs H e vI Q E (Z7 bs m a e)
def spEnter (K:W.Frag) (C CB:Addr):Sp:=fun vs H Q E=>∃ r sA bs a e,vs=[.ref r]/\RE K C r sA bs H a e/\match Z7 bs 1000000 a e with
 | .no q=>BB CB E r H q
 | .ok v q=>if v<=(e:Int) - (q:Int) then ∀ H',Kp r H H'->RE K C r sA bs H' q (q+v.toNat)->Q (.int e) H' else BB CB E r H (q - 1)
def spLeave (K:W.Frag) (C:Addr):Sp:=fun vs H Q _=>∃ r sA bs a e e',vs=[.ref r,.int ((e':Nat):Int)]/\RE K C r sA bs H a e/\e<=e'/\e'<=bs.length/\∀ H',Kp r H H'->RE K C r sA bs H' a e'->Q .non H'
section
variable {P:Program} {w:World} {K:W.Frag} {mg:Str->Option Value} {base:Heap} {f:Addr} {fd:FuncData} {C CB fi:Addr} {fdi:FuncData}
theorem ok_xinit (F:Uf K "__init__" "BadByte.__init__" s_BadByte_init f fd) (c:XCls K C) (n:V6 K C "at"):Yj P w K mg base CX0 1 f fd ["self","at"] (spXInit C):=by
 refine F.ok sc_BadByte_init (fun vs H Q E h=>?_) (fun cdv A outer s H vs Q E hr h=>?_)
 ·obtain ⟨x,y,rfl,_⟩:=h
  rfl
 obtain ⟨x,y,rfl,hx,q⟩:=h
 refine ⟨_,(@Zv _ _ _ (@ps_fldX _ _ _ _ _ _ _ _ (pv 0) (pv 1) rfl)), ?_⟩
 refine ⟨_,rfl,_,rfl,x,C,none,true,rfl,hx,c,n,.inl ⟨rfl,fun d hd nd=>?_⟩⟩
 exact q d _ hd nd (fun b h1 h2=>by rw [Zh h1,Zh h2]) Zq (by rw [Zh nd,Zq])
theorem ok_init (F:Uf K "__init__" "Reader.__init__" s_Reader_init f fd) (c:RdOk K C):Yj P w K mg base CX0 1 f fd ["self","source","at","end"] (spInit K C):=by
 refine F.ok sc_Reader_init (fun vs H Q E h=>?_) (fun cdv A outer s H vs Q E hr h=>?_)
 ·obtain ⟨r,dx,x,a,e,rfl,_⟩:=h
  rfl
 obtain ⟨r,dx,x,a,e,rfl,hr0,q⟩:=h
 refine ⟨_,(@Zj _ _ _ _ _ (@ps_fld _ _ _ _ _ _ _ _ (pv 0) (pv 1) rfl) (@Zj _ _ _ _ _ (@ps_fld _ _ _ _ _ _ _ _ (pv 0) (pv 2) rfl) (@Zv _ _ _ (@ps_fld _ _ _ _ _ _ _ _ (pv 0) (pv 3) rfl)))), ?_⟩
 refine ⟨_,rfl,_,rfl,r,C,dx,[],rfl,hr0,c.cl,c.source,(by decide), ?_⟩
 refine ⟨_,rfl,_,rfl,r,C,dx,_,rfl,Zq,c.cl,c.at',(by show 1<1000; decide), ?_⟩
 refine ⟨_,rfl,_,rfl,r,C,dx,_,rfl,Zq,c.cl,c.end',(by show 2<1000; decide), ?_⟩
 exact q
theorem ok_nbyte (F:Uf K "next_byte" "Reader.next_byte" Uw f fd) (c:RdOk K C) (cb:XCls K CB) (mk_BadByte:XMk K CB fi) (f_BadByte:Yj P w K mg base CX0 1 fi fdi ["self","at"] (spXInit CB)) (x_BadByte:mg "BadByte" = some (.ref CB)) (bi_BadByte:Vc K fdi ["self","at"] []) :
  Yj P w K mg base (CX1 P w) 3 f fd ["self"] (spNByte K C CB):=by
 refine F.okX sc_Reader_next_byte (fun vs H Q E h=>?_) (fun cdv A outer s H vs Q E hr h=>?_)
 ·obtain ⟨r,sA,bs,a,e,rfl,_⟩:=h
  rfl
 obtain ⟨r,sA,bs,a,e,rfl,hd,q1,q2⟩:=h
 obtain ⟨dx,h,hs⟩:=hd.rd.ex
 refine ⟨_,(@Zj _ _ _ _ _ (@Ze _ _ _ _ _ _ _ _ (@Zm _ _ _ _ _ _ _ _ Ym (@Um _ _ _ _ _ (pv 0) rfl) (@Um _ _ _ _ _ (pv 0) rfl) (Zd _)) (@Zv _ _ _ (@ps_raiseX _ _ _ _ _ Y3 (@pe_mkX _ _ _ _ _ _ _ _ _ _ _ _ _ _ _ mk_BadByte f_BadByte hr.m rfl x_BadByte bi_BadByte pass0 (Zf (@Um _ _ _ _ _ (pv 0) rfl) Zx rfl) (by decide) rfl rfl) rfl)) Zl) (@Zj _ _ _ _ _ (@ps_fld _ _ _ _ _ _ _ _ (pv 0) (@Zg _ _ _ _ _ _ _ _ Yx (@Um _ _ _ _ _ (pv 0) rfl) Zz) rfl) (@Zv _ _ _ (@Zc _ _ _ _ (@Za _ _ _ _ _ _ _ ix_seq (@Um _ _ _ _ _ (pv 0) rfl) (@Zg _ _ _ _ _ _ _ _ Y9 (@Um _ _ _ _ _ (pv 0) rfl) Zz) (fun _ _=>rfl)))))), ?_⟩
 refine ⟨_,rfl,r,C,dx,_,_,rfl,h,c.cl,c.at',rfl, ?_⟩
 refine ⟨_,rfl,r,C,dx,_,_,rfl,h,c.cl,c.end',rfl,rfl,_,rfl, ?_⟩
 rw [Yd]
 refine ite2 (fun z=>?_) (fun z=>?_)
 ·have ae:a=e:=by have:=eq_of_beq z; omega
  exact ⟨_,rfl,r,C,dx,_,_,rfl,h,c.cl,c.end',rfl,bb_raise cb (q1 ae) rfl⟩
 have ae:a<e:=by
  have:=hd.le
  have:¬ (a:Int)=(e:Int):=fun y=>z (beq_iff_eq.mpr y)
  omega
 refine ⟨_,rfl,r,C,dx,_,_,rfl,h,c.cl,c.at',rfl,_,_,rfl,rfl, ?_⟩
 refine ⟨_,rfl,r,C,dx,_,rfl,h,c.cl,c.at',(by show 3<1000; decide), ?_⟩
 have k1:Kp r H (Z6 H r (.ins C dx (fsR (.ref sA) (a+1) e))):=(Kp.refl H).put _
 have hs1:=k1.sq h hs
 refine ⟨_,rfl,r,C,dx,_,_,rfl,Zq,c.cl,c.source,rfl, ?_⟩
 refine ⟨_,rfl,r,C,dx,_,_,rfl,Zq,c.cl,c.at',rfl,_,_,rfl,rfl, ?_⟩
 have hb:=(hd.by'.at (p:=a) (by have:=hd.ln; omega)).1
 have at1:atI (bv bs) ((a:Int)+1 - 1)=some (.int (bs.getD a 0)):=by
  rw [show (a:Int)+1 - 1=(a:Int) by omega]
  exact L2.Z1 (by rw [bv,List.getElem?_map,hb]; rfl)
 have fin:=q2 ae _ k1 ⟨⟨dx,Zq,hs1⟩,ae,hd.ln,hd.by'⟩
 rcases hs1 with hs1 | hs1
 ·exact .inl ⟨sA,_,_,_,rfl,rfl,hs1,at1,fin⟩
 ·exact .inr (.inl ⟨sA,_,_,_,rfl,rfl,hs1,at1,fin⟩)
theorem ok_must (F:Uf K "must" "Reader.must" s_Reader_must f fd) (c:RdOk K C) (cb:XCls K CB) (mk_BadByte:XMk K CB fi) (f_BadByte:Yj P w K mg base CX0 1 fi fdi ["self","at"] (spXInit CB)) (x_BadByte:mg "BadByte" = some (.ref CB)) (bi_BadByte:Vc K fdi ["self","at"] []) :
  Yj P w K mg base (CX1 P w) 3 f fd ["self","right"] (spMust K C CB):=by
 refine F.okX sc_Reader_must (fun vs H Q E h=>?_) (fun cdv A outer s H vs Q E hr h=>?_)
 ·obtain ⟨r,sA,bs,a,e,b,rfl,_⟩:=h
  rfl
 obtain ⟨r,sA,bs,a,e,b,rfl,hd,a1,q1,q2⟩:=h
 obtain ⟨dx,h,hs⟩:=hd.rd.ex
 refine ⟨_,(@Zv _ _ _ (@Ze _ _ _ _ _ _ _ _ (@pt_not _ _ _ _ (@pt_val _ _ _ (pv 1) (by intro _; rfl))) (@Zv _ _ _ (@ps_raiseX _ _ _ _ _ Y3 (@pe_mkX _ _ _ _ _ _ _ _ _ _ _ _ _ _ _ mk_BadByte f_BadByte hr.m rfl x_BadByte bi_BadByte pass0 (Zf (@Zg _ _ _ _ _ _ _ _ Y9 (@Um _ _ _ _ _ (pv 0) rfl) Zz) Zx rfl) (by decide) rfl rfl) rfl)) Zl)), ?_⟩
 refine ⟨_,rfl,_,rfl, ?_⟩
 cases b with
 | true=>exact Z2 rfl (q1 rfl)
 | false =>
  refine Yv rfl ⟨_,rfl,r,C,dx,_,_,rfl,h,c.cl,c.at',rfl,_,_,rfl,rfl,bb_raise cb (q2 rfl) ?_⟩
  show V.int ((a:Int) - 1)=_
  rw [Int.ofNat_sub a1]
  rfl
end
def spUnf:Sp:=fun vs H Q _=>∃ v:Int,vs=[.int v]/\Q (.int (unf v)) H
def ch (c:Nat):Str:=⟨#[c]⟩
theorem BB.pass {CB:Addr} {E:XK} {r:Addr} {H:Hp} {n:Nat} {σ:L2.St} (b:BB CB E r H n):BB CB (xkW (fun _ H' _ C od=>E (.ref C) od H') σ) r H n:=fun d H' k h a C ec _=>by
 cases ec
 exact b d H' k h
theorem Out.no {α:Type} {K:W.Frag} {C CB r sA:Addr} {bs:List Int} {H:Hp} {e q:Nat} {val:α->V->Hp->Prop} {Q:VK} {E:XK} {x:Rs α} (o:Out K C CB r sA bs H e val Q E x) (h:x=.no q):BB CB E r H q:=by subst h; exact o
theorem Out.ok {α:Type} {K:W.Frag} {C CB r sA:Addr} {bs:List Int} {H:Hp} {e q:Nat} {val:α->V->Hp->Prop} {Q:VK} {E:XK} {x:Rs α} {y:α} (o:Out K C CB r sA bs H e val Q E x) (h:x=.ok y q):∀ (v:V) (H':Hp),Kp r H H'->RE K C r sA bs H' q e->val y v H'->Q v H':=by subst h; exact o
def Sc (m u sc:Int):Prop:=u=sc\/(m<u/\m<sc)
theorem mul_ge {a b:Int} (h1:1<=a) (h2:0<=b):b<=a * b:=by
 have:=Int.mul_le_mul_of_nonneg_right h1 h2
 omega
theorem Sc.same {m u sc acc c:Int} (s:Sc m u sc) (ha:0<=acc) (hc:0<=c) (hu:1<=u) (hs:1<=sc):(acc+c * u>m ↔ acc+c * sc>m)/\(acc+c * u<=m->acc<=m->acc+c * u=acc+c * sc):=by
 rcases s with rfl | ⟨h1,h2⟩
 ·exact ⟨Iff.rfl,fun _ _=>rfl⟩
 by_cases z:c=0
 ·subst z
  simp
 ·have g1:=mul_ge (a:=c) (b:=u) (by omega) (by omega)
  have g2:=mul_ge (a:=c) (b:=sc) (by omega) (by omega)
  exact ⟨⟨fun _=>by omega,fun _=>by omega⟩,fun h=>by omega⟩
def LI (K:W.Frag) (C r sA:Addr) (bs:List Int) (H:Hp) (a e:Nat) (m:Int):Nat->L2.St->Hp->Prop:=fun μ σ H1 =>
 (∃ (p:Nat) (acc u sc:Int) (fl:Bool) (o:Option V),μ=e - p/\σ=[some (.ref r),some (.int m),some (.int acc),some (.int u),some (.bl true),o]/\Z7 bs m a e=rLong bs m (e - p) sc acc fl p/\Sc m u sc/\(fl=true ↔ u=1)/\1<=u/\1<=sc/\0<=acc/\acc<=m/\RE K C r sA bs H1 p e/\Kp r H H1)
  \/ (∃ (v:Int) (p:Nat) (u o:Option V),μ=e - p/\σ=[some (.ref r),some (.int m),some (.int v),u,some (.bl false),o]/\Z7 bs m a e=.ok v p/\RE K C r sA bs H1 p e/\Kp r H H1)
section
variable {P:Program} {w:World} {K:W.Frag} {mg:Str->Option Value} {base:Heap} {f:Addr} {fd:FuncData} {C CB:Addr}
theorem ok_nlong (F:Uf K "next_long" "Reader.next_long" Uj f fd) (co:RdOk K C) (g_Reader_next_byte:MFnX P w K mg base 3 C "next_byte" ["self"] (spNByte K C CB)) (g_Reader_must:MFnX P w K mg base 3 C "must" ["self","right"] (spMust K C CB)) :
  Yj P w K mg base (CX1 P w) 4 f fd ["self","most"] (spNLong K C CB):=by
 refine F.okX Yw (fun vs H Q E h=>?_) (fun cdv A outer s H vs Q E hr h=>?_)
 ·obtain ⟨r,sA,bs,a,e,m,rfl,_⟩:=h
  rfl
 obtain ⟨r,sA,bs,a,e,m,rfl,hd,m8,m2,q⟩:=h
 refine ⟨_,(@Zj _ _ _ _ _ (@Zk _ 2 _ _ _ _ _ Yw.nd rfl (by trivial) Zz rfl (by trivial)) (@Zj _ _ _ _ _ (@Zk _ 3 _ _ _ _ _ Yw.nd rfl (by trivial) Zz rfl (by trivial)) (@Zj _ _ _ _ _ (@Zk _ 4 _ _ _ _ _ Yw.nd rfl (by trivial) pe_bl rfl (by trivial)) (@Zj _ _ _ _ _ (@ps_while _ _ _ _ _ _ PassesOwn.leaving (@pt_val _ _ _ (pv 4) (by intro _; rfl)) (@Zj _ _ _ _ _ (@Zk _ 5 _ _ _ _ _ Yw.nd rfl (by trivial) (@pe_methX0 _ _ _ _ _ _ _ _ _ _ _ _ g_Reader_next_byte Y3 hr.m (pv 0) rfl) rfl (by trivial)) (@Zj _ _ _ _ _ (@Zk _ 2 _ _ _ _ _ Yw.nd rfl (by trivial) (@Zg _ _ _ _ _ _ _ _ Yx (pv 2) (@Zg _ _ _ _ _ _ _ _ Vl (@Zg _ _ _ _ _ _ _ _ Vi (pv 5) Zz) (pv 3))) rfl (by trivial)) (@Zj _ _ _ _ _ (@Yz _ _ _ _ (@Vb _ _ _ _ _ _ _ _ _ _ _ _ _ _ _ g_Reader_must Y3 hr.m (pv 0) (Zf (@pe_and _ _ _ _ _ _ _ (@Vh _ _ _ _ _ _ _ _ op_le (pv 2) (pv 1) (Zd _)) (@pe_one _ _ _ _ _ (@pe_or _ _ _ _ _ _ _ (@Vh _ _ _ _ _ _ _ _ op_gt (pv 5) Zz (Zd _)) (@pe_one _ _ _ _ _ (@Vh _ _ _ _ _ _ _ _ Ym (pv 3) Zz (Zd _)))))) Zx rfl) rfl rfl rfl) rfl) (@Zj _ _ _ _ _ (@Zk _ 4 _ _ _ _ _ Yw.nd rfl (by trivial) (@Vh _ _ _ _ _ _ _ _ op_ge (pv 5) Zz (Zd _)) rfl (by trivial)) (@Zv _ _ _ (@Ze _ _ _ _ _ _ _ _ (@Zm _ _ _ _ _ _ _ _ op_le (pv 3) (pv 1) (Zd _)) (@Zv _ _ _ (@Zk _ 3 _ _ _ _ _ Yw.nd rfl (by trivial) (@Zg _ _ _ _ _ _ _ _ Vl (pv 3) Zz) rfl (by trivial))) Zl))))))) (@Zv _ _ _ (@Zc _ _ _ _ (pv 2))))))), ?_⟩
 refine ⟨LI K C r sA bs H a e m,⟨e - a,.inl ⟨a,0,1,1,true,_,rfl,rfl,rfl,.inl rfl,⟨fun _=>rfl,fun _=>rfl⟩,by omega,by omega,by omega,by omega,hd,Kp.refl H⟩⟩, ?_⟩
 rintro μ σ H1 (⟨p,acc,u,sc,fl,o,rfl,rfl,eq,hs,hf,u1,s1,a0,am,d1,k1⟩ | ⟨v,p,u,o,rfl,rfl,eq,d1,k1⟩)
 ·refine ⟨_,rfl,_,rfl,Yv rfl ⟨fun σ' H'=>∃ m',m'<e - p/\_,fun σ' H' h=>h, ?_⟩⟩
  obtain ⟨dx,hh,hq⟩:=d1.rd.ex
  refine ⟨_,rfl,r,dx,_,rfl,hh,rfl,r,sA,bs,p,e,rfl,d1,fun pe=>?_,fun pe H2 k2 d2=>?_⟩
  ·rw [show e - p=0 by omega] at eq
   have b:=q.no (eq.trans rfl)
   rw [pe] at b
   exact (b.kp k1).pass
  obtain ⟨dx2,hh2,hq2⟩:=d2.rd.ex
  obtain ⟨_,c0,c1⟩:=d1.by'.at (p:=p) (by have:=d1.ln; omega)
  rw [show e - p=(e - (p+1))+1 by omega] at eq
  unfold rLong at eq
  simp only at eq
  generalize bs.getD p 0=c at eq c0 c1
  obtain ⟨i1,i2⟩:=hs.same (c:=c % 128) a0 (by omega) u1 s1
  refine ⟨_,rfl,_,rfl,_,_,rfl,rfl,(by show (0:Int)<128; decide),_,rfl,_,_,rfl,rfl,.inl ⟨by show _<c % 128; omega,by show c % 128<_; omega⟩,_,_,rfl,rfl, ?_⟩
  have nop:(acc+c % 128 * sc>m\/(c=0/\fl=false))->BB CB (xkW (fun _ H' _ C od=>E (.ref C) od H') [some (.ref r),some (.int m),some (.int (acc+c % 128 * u)),some (.int u),some (.bl true),some (.int c)]) r H2 (p+1 - 1):=fun z=>by
   rw [if_pos z] at eq
   exact ((q.no eq).kp (k1.trans k2)).pass
  refine ⟨_,rfl,r,dx2,_,rfl,hh2,rfl,_,rfl,_,rfl,_,_,rfl,rfl,_,rfl, ?_⟩
  have endS:acc+c % 128 * u<=m->¬ (c=0/\fl=false)->∀ u':Int,((u<=m/\u'=u * 128)\/(¬ u<=m/\u'=u))->∃ m',m'<e - p/\LI K C r sA bs H a e m m' [some (.ref r),some (.int m),some (.int (acc+c % 128 * u)),some (.int u'),some (.bl (decide (128<=c))),some (.int c)] H2:=fun hle nz u' hu'=>by
   have es:=i2 hle am
   have nn:0<=c % 128 * u:=Int.mul_nonneg (by omega) (by omega)
   rw [if_neg (by rw [<-i1]; intro z; rcases z with z | z; omega; exact nz z), <-es] at eq
   by_cases c2:c<128
   ·rw [if_pos c2] at eq
    exact ⟨e - (p+1),by omega,.inr ⟨_,p+1,_,_,rfl,by rw [decide_eq_false (by omega)],eq,d2,k1.trans k2⟩⟩
   ·rw [if_neg c2] at eq
    refine ⟨e - (p+1),by omega,.inl ⟨p+1,acc+c % 128 * u,u',sc * 128,false,_,rfl,by rw [decide_eq_true (by omega)],eq, ?_,⟨fun z=>(nomatch z),fun z=>?_⟩,by rcases hu' with h | h <;> omega,by omega,by omega,hle,d2,k1.trans k2⟩⟩
    ·rcases hu' with ⟨h1,rfl⟩ | ⟨h1,rfl⟩
     ·rcases hs with rfl | ⟨h2,h3⟩
      ·exact .inl rfl
      ·omega
     ·rcases hs with rfl | ⟨h2,h3⟩
      ·exact .inr ⟨by omega,by omega⟩
      ·exact .inr ⟨by omega,by omega⟩
    ·rcases hu' with h | h <;> omega
  by_cases hle:acc+c % 128 * u<=m
  ·refine Yv (decide_eq_true hle) ⟨_,rfl,_,_,rfl,rfl,_,rfl,ite2 (fun z=>⟨r,sA,bs,p+1,e,true,rfl,d2,by omega,fun _=>?f1,fun z=>(nomatch z)⟩) (fun z=>⟨_,rfl,rfl,r,sA,bs,p+1,e,_,rfl,d2,by omega,fun z2=>?f2,fun z2=>?f3⟩)⟩
   case f3 =>
    refine nop (.inr ⟨?_, ?_⟩)
    ·have:¬ 0<c:=fun y=>z (decide_eq_true y)
     omega
    ·rw [Yd] at z2
     cases fl with
     | false=>rfl
     | true=>rw [hf.mp rfl] at z2; cases z2
   case' f1 =>
    have nz:¬ (c=0/\fl=false):=fun y=>by have:0<c:=of_decide_eq_true z; omega
   case' f2 =>
    have nz:¬ (c=0/\fl=false):=fun y=>by
     rw [Yd] at z2
     rw [hf.mpr (eq_of_beq z2)] at y
     cases y.2
   all_goals
    refine ⟨_,rfl,_,_,rfl,rfl, ?_⟩
    refine ⟨_,rfl,_,rfl,_,_,rfl,rfl,_,rfl,ite2 (fun um=>⟨_,rfl,_,_,rfl,rfl,.inr ⟨by decide,by decide⟩, ?_⟩) (fun um=>?_)⟩
    ·exact endS hle nz (u * 128) (.inl ⟨of_decide_eq_true um,rfl⟩)
    ·exact endS hle nz u (.inr ⟨fun y=>um (decide_eq_true y),rfl⟩)
  ·exact Z2 (decide_eq_false hle) ⟨r,sA,bs,p+1,e,false,rfl,d2,by omega,fun z=>(nomatch z),fun _=>nop (.inl (i1.mp (by omega)))⟩
 ·exact ⟨_,rfl,_,rfl,Z2 rfl ⟨_,rfl,q.ok eq _ _ k1 d1 rfl⟩⟩
theorem ok_enter (F:Uf K "enter_room" "Reader.enter_room" V5 f fd) (co:RdOk K C) (c:Cn mg) (g_Reader_next_long:MFnX P w K mg base 4 C "next_long" ["self","most"] (spNLong K C CB)) (g_Reader_must:MFnX P w K mg base 3 C "must" ["self","right"] (spMust K C CB)) :
  Yj P w K mg base (CX1 P w) 5 f fd ["self"] (spEnter K C CB):=by
 refine F.okX Va (fun vs H Q E h=>?_) (fun cdv A outer s H vs Q E hr h=>?_)
 ·obtain ⟨r,sA,bs,a,e,rfl,_⟩:=h
  rfl
 obtain ⟨r,sA,bs,a,e,rfl,hd,q⟩:=h
 refine ⟨_,(@Zj _ _ _ _ _ (@Zk _ 1 _ _ _ _ _ Va.nd rfl (by trivial) (@Um _ _ _ _ _ (pv 0) rfl) rfl (by trivial)) (@Zj _ _ _ _ _ (@Zk _ 2 _ _ _ _ _ Va.nd rfl (by trivial) (@Vb _ _ _ _ _ _ _ _ _ _ _ _ _ _ _ g_Reader_next_long Y3 hr.m (pv 0) (Zf (@pe_globN _ _ _ _ rfl c.GREATEST_SIZE (by decide)) Zx rfl) rfl rfl rfl) rfl (by trivial)) (@Zj _ _ _ _ _ (@Yz _ _ _ _ (@Vb _ _ _ _ _ _ _ _ _ _ _ _ _ _ _ g_Reader_must Y3 hr.m (pv 0) (Zf (@Vh _ _ _ _ _ _ _ _ op_le (pv 2) (@Zg _ _ _ _ _ _ _ _ Y9 (pv 1) (@Um _ _ _ _ _ (pv 0) rfl)) (Zd _)) Zx rfl) rfl rfl rfl) rfl) (@Zj _ _ _ _ _ (@ps_fld _ _ _ _ _ _ _ _ (pv 0) (@Zg _ _ _ _ _ _ _ _ Yx (@Um _ _ _ _ _ (pv 0) rfl) (pv 2)) rfl) (@Zv _ _ _ (@Zc _ _ _ _ (pv 1))))))), ?_⟩
 obtain ⟨dx,h,hs⟩:=hd.rd.ex
 refine ⟨_,rfl,r,C,dx,_,_,rfl,h,co.cl,co.end',rfl, ?_⟩
 refine ⟨_,rfl,r,dx,_,rfl,h,rfl,r,sA,bs,a,e,_,rfl,hd,by decide,by decide, ?_⟩
 cases er:Z7 bs 1000000 a e with
 | no q' =>
  rw [er] at q
  exact BB.pass q
 | ok v q' =>
  rw [er] at q
  obtain ⟨p1,p2,p3⟩:=Z4 er
  have v0:=Vn hd.by' hd.ln er
  intro y H1 k1 d1 ey
  subst ey
  obtain ⟨dx1,h1,hs1⟩:=d1.rd.ex
  refine ⟨_,rfl,r,dx1,_,rfl,h1,rfl,_,rfl,_,rfl,_,rfl,r,C,dx1,_,_,rfl,h1,co.cl,co.at',rfl,_,_,rfl,rfl,_,_,rfl,rfl,r,sA,bs,q',e,_,rfl,d1,by omega,fun z=>?_,fun z=>?_⟩
  ·have hv:v<=(e:Int) - (q':Int):=of_decide_eq_true z
   have q:=(show (if v<=(e:Int) - (q':Int) then _ else _) from q)
   rw [if_pos hv] at q
   refine ⟨_,rfl,r,C,dx1,_,_,rfl,h1,co.cl,co.at',rfl,_,rfl,_,_,rfl,rfl,_,rfl,r,C,dx1,_,rfl,h1,co.cl,co.end',(by show 3<1000; decide), ?_⟩
   have k2:Kp r H1 (Z6 H1 r (.ins C dx1 (fsR (.ref sA) q' (q'+v.toNat)))):=(Kp.refl H1).put _
   have ee:(q':Int)+v=((q'+v.toNat:Nat):Int):=by omega
   show tRet (tVar 1) _ _ (Z6 H1 r (HO.ins C dx1 (putF "end" (V.int ((q':Int)+v)) (fsR (V.ref sA) q' e))))
   rw [ee]
   exact ⟨_,rfl,q _ (k1.trans k2) ⟨⟨dx1,Zq,k2.sq h1 hs1⟩,by omega,by have:=d1.ln; omega,d1.by'⟩⟩
  ·have hv:¬ v<=(e:Int) - (q':Int):=of_decide_eq_false z
   have q:=(show (if v<=(e:Int) - (q':Int) then _ else _) from q)
   rw [if_neg hv] at q
   exact (q.kp k1).pass
theorem ok_leave (F:Uf K "leave_room" "Reader.leave_room" V4 f fd) (co:RdOk K C):Yj P w K mg base CX0 1 f fd ["self","around"] (spLeave K C):=by
 refine F.ok sc_Reader_leave_room (fun vs H Q E h=>?_) (fun cdv A outer s H vs Q E hr h=>?_)
 ·obtain ⟨r,sA,bs,a,e,e',rfl,_⟩:=h
  rfl
 obtain ⟨r,sA,bs,a,e,e',rfl,hd,l1,l2,q⟩:=h
 refine ⟨_,(@Zv _ _ _ (@ps_fld _ _ _ _ _ _ _ _ (pv 0) (pv 1) rfl)), ?_⟩
 obtain ⟨dx,h,hs⟩:=hd.rd.ex
 refine ⟨_,rfl,_,rfl,r,C,dx,_,rfl,h,co.cl,co.end',(by show 3<1000; decide), ?_⟩
 have k2:Kp r H (Z6 H r (.ins C dx (fsR (.ref sA) a e'))):=(Kp.refl H).put _
 exact q _ k2 ⟨⟨dx,Zq,k2.sq h hs⟩,Nat.le_trans hd.le l1,l2,hd.by'⟩
theorem ok_unfolded (F:Uf K "unfolded" "unfolded" s_unfolded f fd):Yj P w K mg base CX0 1 f fd ["n"] spUnf:=by
 refine F.ok sc_unfolded (fun vs H Q E h=>?_) (fun cdv A outer s H vs Q E hr h=>?_)
 ·obtain ⟨n,rfl,_⟩:=h
  rfl
 obtain ⟨k,rfl,q⟩:=h
 refine ⟨_,(@Zv _ _ _ (@Zc _ _ _ _ (@pe_ifExp _ _ _ _ _ _ _ _ (@Zm _ _ _ _ _ _ _ _ Ym (@Zg _ _ _ _ _ _ _ _ Vi (pv 0) Zz) Zz (Zd _)) (@Zg _ _ _ _ _ _ _ _ op_fdiv (pv 0) Zz) (@Zg _ _ _ _ _ _ _ _ op_fdiv (@pe_un _ _ _ _ _ _ un_neg (@Zg _ _ _ _ _ _ _ _ Yx (pv 0) Zz)) Zz)))), ?_⟩
 refine ⟨_,rfl,_,_,rfl,rfl,(by show (0:Int)<2; decide),rfl,_,rfl, ?_⟩
 unfold unf at q
 by_cases hk:k % 2=0
 ·rw [if_pos hk] at q
  exact Yv (by rw [Yd]; simp [hk]) ⟨_,rfl,_,_,rfl,rfl,⟨by decide,by decide⟩,q⟩
 ·rw [if_neg hk] at q
  exact Z2 (by rw [Yd]; simp [hk]) ⟨_,rfl,_,_,rfl,rfl,_,rfl,_,_,rfl,rfl,⟨by decide,by decide⟩,q⟩
end
def spSign (K:W.Frag) (C CB:Addr) (g:Int->Bool):Sp:=fun vs H Q E=>∃ r sA bs a e,vs=[.ref r]/\RE K C r sA bs H a e/\((a<e/\g (bs.getD a 0)=true)->∀ H',Kp r H H'->RE K C r sA bs H' (a+1) e->Q (.str (ch (bs.getD a 0).toNat)) H')/\(¬ (a<e/\g (bs.getD a 0)=true)->BB CB E r H a)
def vS:Str->V->Hp->Prop:=fun x v _=>v=.str x
def vL:Lb->V->Hp->Prop:=fun l v _=>v=lbV l
def spNText (K:W.Frag) (C CB:Addr):Sp:=fun vs H Q E=>∃ r sA bs a e,vs=[.ref r]/\RE K C r sA bs H a e/\Out K C CB r sA bs H e vS Q E (rText bs a e)
def spNNum (K:W.Frag) (C CB:Addr):Sp:=fun vs H Q E=>∃ r sA bs a e m,vs=[.ref r,.int m]/\RE K C r sA bs H a e/\Out K C CB r sA bs H e vI Q E (rNum bs m a e)
def spNKey (K:W.Frag) (C CB:Addr):Sp:=fun vs H Q E=>∃ r sA bs a e y,vs=[.ref r,.str y]/\RE K C r sA bs H a e/\Out K C CB r sA bs H e vS Q E (rKey bs y a e)
def LbK (s:Nat) (l:Lb):Prop:=(s=0/\l=.no)\/(s=1/\∃ x,l=.key x)\/(s=2/\∃ n,l=.num n)
def spNLabel (K:W.Frag) (C CB:Addr):Sp:=fun vs H Q E=>∃ r sA bs a e s l,vs=[.ref r,.str (srt s),lbV l]/\RE K C r sA bs H a e/\LbK s l/\Out K C CB r sA bs H e vL Q E (rLab bs s l a e)
theorem sgn_at:∀ c:Nat,c<127->gdC c->(if c<37 then (SGN.cps.toList)[c - 32]? else (SGN.cps.toList)[c - 33]?)=some c:=by
 decide +kernel
theorem let_at:∀ c:Nat,97<=c/\c<=122->(LET.cps.toList)[c - 97]?=some c:=by
 intro c h
 have:∀ c:Nat,c<123->97<=c->(LET.cps.toList)[c - 97]?=some c:=by decide +kernel
 exact this c (by omega) h.1
theorem SGN_len:SGN.length<=sizeLine:=Nat.le_trans (show SGN.length<=1000 by decide +kernel) (by decide)
theorem LET_len:LET.length<=sizeLine:=Nat.le_trans (show LET.length<=1000 by decide +kernel) (by decide)
def appR (xs:List Nat):Rs (List Nat)->Rs (List Nat)
 | .ok ys q=>.ok (xs++ys) q
 | .no q=>.no q
theorem appR_app (xs:List Nat) (c:Nat) (r:Rs (List Nat)):appR xs (appR [c] r)=appR (xs++[c]) r:=by
 cases r with
 | ok ys q=>simp [appR]
 | no q=>rfl
theorem rSig_succ {bs:List Int} {g:Int->Bool} {e k p:Nat} (h:p<e/\g (bs.getD p 0)=true):Vg bs g e (k+1) p=appR [(bs.getD p 0).toNat] (Vg bs g e k (p+1)):=by
 show (if _ then _ else _)=_
 rw [if_pos h]
 cases Vg bs g e k (p+1) <;> rfl
theorem rSig_bad {bs:List Int} {g:Int->Bool} {e k p:Nat} (h:¬ (p<e/\g (bs.getD p 0)=true)):Vg bs g e (k+1) p=.no p:=by
 show (if _ then _ else _)=_
 rw [if_neg h]
theorem Uz (xs:List Nat):(sOf xs).cps.toList=xs:=by simp [sOf]
theorem sOf_more (xs:List Nat) (c:Nat):sOf xs++ch c=sOf (xs++[c]):=by
 apply str_ext
 show (xs.toArray++#[c]).toList=(xs++[c]).toArray.toList
 simp
theorem sOf_len (xs:List Nat):(sOf xs).length=xs.length:=by show xs.toArray.size=_; simp
theorem join_chs (xs:List Nat):Txt.join "" (xs.map ch)=sOf xs:=by
 apply str_ext
 rw [join_list,Uz]
 induction xs with
 | nil=>rfl
 | cons a l ih=>simp only [List.map_cons,List.flatten_cons,ih]; rfl
section
variable {P:Program} {w:World} {K:W.Frag} {mg:Str->Option Value} {base:Heap} {f:Addr} {fd:FuncData} {C CB:Addr}
theorem ok_next_sign (F:Uf K "next_sign" "next_sign" s_next_sign f fd) (c:Cn mg) (g_Reader_next_byte:MFnX P w K mg base 3 C "next_byte" ["self"] (spNByte K C CB)) (g_Reader_must:MFnX P w K mg base 3 C "must" ["self","right"] (spMust K C CB)) :
  Yj P w K mg base (CX1 P w) 4 f fd ["reader"] (spSign K C CB Ug):=by
 refine F.okX sc_next_sign (fun vs H Q E h=>?_) (fun cdv A outer s H vs Q E hr h=>?_)
 ·obtain ⟨r,sA,bs,a,e,rfl,_⟩:=h
  rfl
 obtain ⟨r,sA,bs,a,e,rfl,hd,q1,q2⟩:=h
 refine ⟨_,(@Zj _ _ _ _ _ (@Zk _ 1 _ _ _ _ _ sc_next_sign.nd rfl (by trivial) (@pe_methX0 _ _ _ _ _ _ _ _ _ _ _ _ g_Reader_next_byte Y3 hr.m (pv 0) rfl) rfl (by trivial)) (@Zj _ _ _ _ _ (@Yz _ _ _ _ (@Vb _ _ _ _ _ _ _ _ _ _ _ _ _ _ _ g_Reader_must Y3 hr.m (pv 0) (Zf (@pe_and _ _ _ _ _ _ _ (@pe_chain _ _ _ _ _ _ _ _ _ _ _ _ op_le op_le Zz (pv 1) Zz (by trivial)) (@pe_one _ _ _ _ _ (@Vh _ _ _ _ _ _ _ _ op_ne (pv 1) Zz (Zd _)))) Zx rfl) rfl rfl rfl) rfl) (@Zv _ _ _ (@Zc _ _ _ _ (@pe_ifExp _ _ _ _ _ _ _ _ (@Zm _ _ _ _ _ _ _ _ op_lt (pv 1) Zz (Zd _)) (@Za _ _ _ _ _ _ _ ix_str (@pe_globS _ _ _ _ rfl c.SIGNS (by decide)) (@Zg _ _ _ _ _ _ _ _ Y9 (pv 1) Zz) (fun _ _=>rfl)) (@Za _ _ _ _ _ _ _ ix_str (@pe_globS _ _ _ _ rfl c.SIGNS (by decide)) (@Zg _ _ _ _ _ _ _ _ Y9 (pv 1) Zz) (fun _ _=>rfl))))))), ?_⟩
 obtain ⟨dx,h,hs⟩:=hd.rd.ex
 refine ⟨_,rfl,r,dx,_,rfl,h,rfl,r,sA,bs,a,e,rfl,hd,fun ae=>?_,fun ae H1 k1 d1=>?_⟩
 ·have b:=q2 (by omega)
  rw [ae] at b
  exact b.pass
 obtain ⟨dx1,h1,hs1⟩:=d1.rd.ex
 obtain ⟨_,c0,c255⟩:=hd.by'.at (p:=a) (by have:=hd.ln; omega)
 generalize bs.getD a 0=cc at q1 q2 c0 c255
 obtain ⟨b,rfl⟩:=Int.eq_ofNat_of_zero_le c0
 have no:¬ Ug (b:Int)=true->BB CB (xkW (fun _ H' _ C od=>E (.ref C) od H') [some (.ref r),some (.int (b:Int))]) r H1 (a+1 - 1):=fun z=>((q2 fun y=>z y.2).kp k1).pass
 refine ⟨_,rfl,r,dx1,_,rfl,h1,rfl,_,rfl,_,_,rfl,rfl,_,rfl, ?_⟩
 by_cases b1:(32:Int)<=(b:Int)
 ·refine Yv (decide_eq_true b1) ⟨_,_,rfl,rfl,_,rfl, ?_⟩
  by_cases b2:(b:Int)<=126
  ·refine Yv (decide_eq_true b2) ⟨_,rfl,rfl,r,sA,bs,a+1,e,_,rfl,d1,by omega,fun z=>?_,fun z=>?_⟩
   ·have b3:¬ (b:Int)=37:=fun y=>by rw [Yd,y] at z; cases z
    have gd:Ug (b:Int)=true:=decide_eq_true ⟨b1,b2,b3⟩
    have fin:=q1 ⟨ae,gd⟩ H1 k1 d1
    have sa:=sgn_at b (by omega) ⟨by omega,by omega,by omega⟩
    refine ⟨_,rfl,_,_,rfl,rfl,_,rfl, ?_⟩
    by_cases hc:b<37
    ·rw [if_pos hc] at sa
     refine Yv (decide_eq_true (show (b:Int)<37 by omega)) ⟨_,rfl,_,_,rfl,rfl,SGN,_,b,rfl,rfl,SGN_len, ?_,fin⟩
     rw [show ((b:Int) - 32)=((b - 32:Nat):Int) by omega]
     exact L2.Z1 sa
    ·rw [if_neg hc] at sa
     refine Z2 (decide_eq_false (show ¬ (b:Int)<37 by omega)) ⟨_,rfl,_,_,rfl,rfl,SGN,_,b,rfl,rfl,SGN_len, ?_,fin⟩
     rw [show ((b:Int) - 33)=((b - 33:Nat):Int) by omega]
     exact L2.Z1 sa
   ·refine no fun y=>?_
    have:=of_decide_eq_true y
    rw [Yd,beq_false_of_ne this.2.2] at z
    cases z
  ·exact Z2 (decide_eq_false b2) ⟨r,sA,bs,a+1,e,false,rfl,d1,by omega,fun z=>(nomatch z),fun _=>no fun y=>b2 (of_decide_eq_true y).2.1⟩
 ·exact Z2 (decide_eq_false b1) ⟨_,rfl,Z2 rfl ⟨r,sA,bs,a+1,e,false,rfl,d1,by omega,fun z=>(nomatch z),fun _=>no fun y=>b1 (of_decide_eq_true y).1⟩⟩
theorem ok_next_letter (F:Uf K "next_letter" "next_letter" s_next_letter f fd) (c:Cn mg) (g_Reader_next_byte:MFnX P w K mg base 3 C "next_byte" ["self"] (spNByte K C CB)) (g_Reader_must:MFnX P w K mg base 3 C "must" ["self","right"] (spMust K C CB)) :
  Yj P w K mg base (CX1 P w) 4 f fd ["reader"] (spSign K C CB gLow):=by
 refine F.okX sc_next_letter (fun vs H Q E h=>?_) (fun cdv A outer s H vs Q E hr h=>?_)
 ·obtain ⟨r,sA,bs,a,e,rfl,_⟩:=h
  rfl
 obtain ⟨r,sA,bs,a,e,rfl,hd,q1,q2⟩:=h
 refine ⟨_,(@Zj _ _ _ _ _ (@Zk _ 1 _ _ _ _ _ sc_next_letter.nd rfl (by trivial) (@pe_methX0 _ _ _ _ _ _ _ _ _ _ _ _ g_Reader_next_byte Y3 hr.m (pv 0) rfl) rfl (by trivial)) (@Zj _ _ _ _ _ (@Yz _ _ _ _ (@Vb _ _ _ _ _ _ _ _ _ _ _ _ _ _ _ g_Reader_must Y3 hr.m (pv 0) (Zf (@pe_chain _ _ _ _ _ _ _ _ _ _ _ _ op_le op_le Zz (pv 1) Zz (by trivial)) Zx rfl) rfl rfl rfl) rfl) (@Zv _ _ _ (@Zc _ _ _ _ (@Za _ _ _ _ _ _ _ ix_str (@pe_globS _ _ _ _ rfl c.LETTERS (by decide)) (@Zg _ _ _ _ _ _ _ _ Y9 (pv 1) Zz) (fun _ _=>rfl)))))), ?_⟩
 obtain ⟨dx,h,hs⟩:=hd.rd.ex
 refine ⟨_,rfl,r,dx,_,rfl,h,rfl,r,sA,bs,a,e,rfl,hd,fun ae=>?_,fun ae H1 k1 d1=>?_⟩
 ·have b:=q2 (by omega)
  rw [ae] at b
  exact b.pass
 obtain ⟨dx1,h1,hs1⟩:=d1.rd.ex
 obtain ⟨_,c0,c255⟩:=hd.by'.at (p:=a) (by have:=hd.ln; omega)
 generalize bs.getD a 0=cc at q1 q2 c0 c255
 obtain ⟨b,rfl⟩:=Int.eq_ofNat_of_zero_le c0
 have no:¬ gLow (b:Int)=true->BB CB (xkW (fun _ H' _ C od=>E (.ref C) od H') [some (.ref r),some (.int (b:Int))]) r H1 (a+1 - 1):=fun z=>((q2 fun y=>z y.2).kp k1).pass
 refine ⟨_,rfl,r,dx1,_,rfl,h1,rfl,_,rfl,_,_,rfl,rfl,_,rfl, ?_⟩
 by_cases b1:(97:Int)<=(b:Int)
 ·refine Yv (decide_eq_true b1) ⟨_,_,rfl,rfl,r,sA,bs,a+1,e,_,rfl,d1,by omega,fun z=>?_,fun z=>no fun y=>(of_decide_eq_false z) (of_decide_eq_true y).2⟩
  have b2:(b:Int)<=122:=of_decide_eq_true z
  have sa:=let_at b ⟨by omega,by omega⟩
  refine ⟨_,rfl,_,_,rfl,rfl,LET,_,b,rfl,rfl,LET_len, ?_,q1 ⟨ae,decide_eq_true ⟨b1,b2⟩⟩ H1 k1 d1⟩
  rw [show ((b:Int) - 97)=((b - 97:Nat):Int) by omega]
  exact L2.Z1 sa
 ·exact Z2 (decide_eq_false b1) ⟨r,sA,bs,a+1,e,false,rfl,d1,by omega,fun z=>(nomatch z),fun _=>no fun y=>b1 (of_decide_eq_true y).1⟩
theorem ok_next_number (F:Uf K "next_number" "next_number" s_next_number f fd) (c:Cn mg) (g_Reader_next_long:MFnX P w K mg base 4 C "next_long" ["self","most"] (spNLong K C CB)) (g_Reader_must:MFnX P w K mg base 3 C "must" ["self","right"] (spMust K C CB)) :
  Yj P w K mg base (CX1 P w) 5 f fd ["reader","last"] (spNNum K C CB):=by
 refine F.okX sc_next_number (fun vs H Q E h=>?_) (fun cdv A outer s H vs Q E hr h=>?_)
 ·obtain ⟨r,sA,bs,a,e,m,rfl,_⟩:=h
  rfl
 obtain ⟨r,sA,bs,a,e,m,rfl,hd,q⟩:=h
 refine ⟨_,(@Zj _ _ _ _ _ (@Zk _ 2 _ _ _ _ _ sc_next_number.nd rfl (by trivial) (@Vb _ _ _ _ _ _ _ _ _ _ _ _ _ _ _ g_Reader_next_long Y3 hr.m (pv 0) (Zf (@pe_globN _ _ _ _ rfl c.GREATEST_NUMBER (by decide)) Zx rfl) rfl rfl rfl) rfl (by trivial)) (@Zj _ _ _ _ _ (@Yz _ _ _ _ (@Vb _ _ _ _ _ _ _ _ _ _ _ _ _ _ _ g_Reader_must Y3 hr.m (pv 0) (Zf (@Vh _ _ _ _ _ _ _ _ op_gt (pv 2) (pv 1) (Zd _)) Zx rfl) rfl rfl rfl) rfl) (@Zv _ _ _ (@Zc _ _ _ _ (pv 2))))), ?_⟩
 obtain ⟨dx,h,hs⟩:=hd.rd.ex
 unfold rNum at q
 refine ⟨_,rfl,r,dx,_,rfl,h,rfl,r,sA,bs,a,e,_,rfl,hd,by decide,by decide, ?_⟩
 cases er:Z7 bs 999 a e with
 | no q' =>
  rw [er] at q
  exact BB.pass q
 | ok v q' =>
  rw [er] at q
  obtain ⟨p1,p2,p3⟩:=Z4 er
  intro y H1 k1 d1 ey
  subst ey
  obtain ⟨dx1,h1',hs1⟩:=d1.rd.ex
  refine ⟨_,rfl,r,dx1,_,rfl,h1',rfl,_,rfl,_,rfl,_,_,rfl,rfl,r,sA,bs,q',e,_,rfl,d1,by omega,fun z=>?_,fun z=>?_⟩
  ·have q:=q.ok (if_pos (of_decide_eq_true z))
   exact ⟨_,rfl,q _ H1 k1 d1 rfl⟩
  ·have q:=q.no (if_neg (of_decide_eq_false z))
   exact (q.kp k1).pass
end
theorem RE.kp {K:W.Frag} {C r sA:Addr} {bs:List Int} {H H':Hp} {a e a' e':Nat} (d:RE K C r sA bs H a e) (k:Kp r H H') (d':Rd K C r sA bs H' a' e') (l1:a'<=e') (l2:e'<=bs.length):RE K C r sA bs H' a' e':=⟨d',l1,l2,d.by'⟩
theorem RE.same {K:W.Frag} {C r sA:Addr} {bs:List Int} {H H':Hp} {a e:Nat} (d:RE K C r sA bs H a e) (s:Zt H H'):RE K C r sA bs H' a e:=⟨d.rd.same s,d.le,d.ln,d.by'⟩
theorem RE.put {K:W.Frag} {C r sA:Addr} {bs:List Int} {H H0:Hp} {a e a0 e0:Nat} {l:Addr} {xs ys:List V} (d:RE K C r sA bs H a e) (hl:H l=some (.lst xs)) (d0:RE K C r sA bs H0 a0 e0) (k:Kp r H0 H) (n0:H0 l=none):RE K C r sA bs (Z6 H l (.lst ys)) a e/\Kp r H0 (Z6 H l (.lst ys)):=by
 have kk:Kp r H0 (Z6 H l (.lst ys)):=fun y o' n h'=>by
  rw [Zh (Z5 h' n0)]
  exact k y o' n h'
 obtain ⟨dx,h,hs⟩:=d.rd.ex
 exact ⟨⟨d0.rd.keep kk ⟨dx,by rw [Zh (d.rd.ne hl).symm]; exact h⟩,d.le,d.ln,d.by'⟩,kk⟩
section
variable {P:Program} {w:World} {K:W.Frag} {mg:Str->Option Value} {base:Heap} {f:Addr} {fd:FuncData} {C CB:Addr}
theorem ok_next_text (F:Uf K "next_text" "next_text" s_next_text f fd) (m:Bn mg) (c:Cn mg) (g_Reader_next_long:MFnX P w K mg base 4 C "next_long" ["self","most"] (spNLong K C CB)) (g_next_sign:FnX P w K mg base 4 "next_sign" ["reader"] (spSign K C CB Ug)) :
  Yj P w K mg base (CX1 P w) 5 f fd ["reader"] (spNText K C CB):=by
 refine F.okX sc_next_text (fun vs H Q E h=>?_) (fun cdv A outer s H vs Q E hr h=>?_)
 ·obtain ⟨r,sA,bs,a,e,rfl,_⟩:=h
  rfl
 obtain ⟨r,sA,bs,a,e,rfl,hd,q⟩:=h
 refine ⟨_,(@Zj _ _ _ _ _ (@Zk _ 1 _ _ _ _ _ sc_next_text.nd rfl (by trivial) (@Yf _ _ _ _ Zx) rfl (by trivial)) (@Zj _ _ _ _ _ (@ps_for _ _ _ _ _ _ _ _ PassesOwn.leaving rfl (@Yi _ _ _ _ _ _ rfl m.range (Zf (@Vb _ _ _ _ _ _ _ _ _ _ _ _ _ _ _ g_Reader_next_long Y3 hr.m (pv 0) (Zf (@pe_globN _ _ _ _ rfl c.LONGEST_TEXT (by decide)) Zx rfl) rfl rfl rfl) Zx rfl) (by trivial)) (@Zo _ 2 _ _ sc_next_text.nd rfl (by trivial) (by trivial)) (@Zv _ _ _ (@Yz _ _ _ _ (@pe_bm _ _ _ _ _ _ _ _ _ _ _ _ PySem.F.plainAttrs_list PySem.F.slot_list_append PySem.F.type_list_append V0 (pv 1) (Zf (@Vt _ _ _ _ _ _ _ _ _ _ _ g_next_sign Y3 hr.m rfl (Zf (pv 0) Zx rfl) (by decide) rfl rfl) Zx rfl) (by trivial) (by trivial) (by trivial) (by trivial) (by trivial)) rfl)) (by trivial)) (@Zv _ _ _ (@Zc _ _ _ _ (@pe_bm _ _ _ _ _ _ _ _ _ _ _ _ PySem.F.plainAttrs_str PySem.F.slot_str_join PySem.F.type_str_join mt_join Zp (Zf (pv 1) Zx rfl) (by trivial) (by trivial) (by trivial) (by trivial) (by trivial)))))), ?_⟩
 refine ⟨(sz 0),fun l hl=>?_⟩
 have s0:=Zt.lay (o:=.lst []) hl
 have hd0:=hd.same s0
 obtain ⟨dx,h,hs⟩:=hd0.rd.ex
 unfold rText at q
 refine ⟨_,rfl,r,dx,_,rfl,h,rfl,r,sA,bs,a,e,_,rfl,hd0,by decide,by decide, ?_⟩
 cases er:Z7 bs 200 a e with
 | no q' =>
  rw [er] at q
  exact BB.pass (BB.kp q (Kp.same s0))
 | ok n p =>
  rw [er] at q
  obtain ⟨p1,p2,p3⟩:=Z4 er
  have n0:=Vn hd.by' hd.ln er
  intro y H1 k1 d1 ey
  subst ey
  have hl1:H1 l=some (.lst []):=k1 _ _ (hd0.rd.ne Zq) Zq
  obtain ⟨n,rfl⟩:=Int.eq_ofNat_of_zero_le n0
  have q:Out K C CB r sA bs H e vS Q E (match Vg bs Ug e n p with | .no q'=>.no q' | .ok xs q'=>.ok (sOf xs) q'):=q
  refine ⟨_,rfl,by omega,by omega,V1 (n:=((n:Nat):Int).toNat) (fun i σ H2=>(∃ o,σ=[some (.ref r),some (.ref l),o])/\Kp r H H2/\RE K C r sA bs H2 (p+i) e/\i<=n/\∃ xs:List Nat,xs.length=i/\H2 l=some (.lst (xs.map fun c=>V.str (ch c)))/\Vg bs Ug e n p=appR xs (Vg bs Ug e (n - i) (p+i))) ⟨⟨_,rfl⟩,(Kp.same s0).trans k1,d1,by omega,[],rfl,hl1, ?_⟩ ?_ ?_⟩
  ·show _=appR [] (Vg bs Ug e n p)
   cases Vg bs Ug e n p <;> rfl
  ·rintro i σ H2 hi ⟨⟨o,rfl⟩,k2,d2,hin,xs,xl,hl2,es⟩
   rw [show n - i=(n - (i+1))+1 by omega] at es
   refine ⟨_,rfl,.inl ⟨rfl,_,Yc.of hl2⟩,_,rfl,r,sA,bs,p+i,e,rfl,d2,fun g H3 k3 d3=>?_,fun g=>?_⟩
   ·rw [rSig_succ g,appR_app] at es
    have hl3:H3 l=_:=k3 _ _ (d2.rd.ne hl2) hl2
    obtain ⟨d4,k4⟩:=d3.put (ys:=(xs.map fun c=>V.str (ch c))++[.str (ch (bs.getD (p+i) 0).toNat)]) hl3 hd (k2.trans k3) hl
    refine ⟨l,_,_,rfl,rfl,hl3, ?_,⟨_,rfl⟩,k4,d4,by omega,xs++[(bs.getD (p+i) 0).toNat],by rw [List.length_append,xl]; rfl, ?_,es⟩
    ·rw [List.length_map]; exact Nat.lt_of_le_of_lt (show _<=1000 by omega) (by decide)
    ·rw [Zq,List.map_append]; rfl
   ·rw [rSig_bad g] at es
    rw [es] at q
    exact BB.pass (σ:=[]) (BB.kp q k2)
  ·rintro σ H2 ⟨⟨o,rfl⟩,k2,d2,hin,xs,xl,hl2,es⟩
   have et:((n:Nat):Int).toNat=n:=by omega
   rw [et] at d2 xl es
   rw [show n - n=0 by omega] at es
   have es:Vg bs Ug e n p=.ok xs (p+n):=es.trans (by show Rs.ok (xs++[]) _=_; rw [List.append_nil])
   rw [es] at q
   have e1:(xs.map fun c=>V.str (ch c))=(xs.map ch).map V.str:=by rw [List.map_map]; rfl
   rw [e1] at hl2
   refine ⟨rfl,_,rfl,_,l,_,rfl,rfl,Yc.of hl2, ?_, ?_⟩
   ·have e2:((xs.map ch).map (·.length)).sum=xs.length:=by
     rw [List.map_map]
     have:∀ l:List Nat,(l.map ((·.length) ∘ ch)).sum=l.length:=fun l=>by
      induction l with
      | nil=>rfl
      | cons a l ih=>rw [List.map_cons,List.sum_cons,ih,List.length_cons]; show 1+_=_; omega
     rw [this]
    rw [e2,List.length_map]
    show xs.length+xs.length * 0<=_
    omega
   ·rw [join_chs]
    exact q _ _ k2 d2 rfl
theorem ok_next_key (F:Uf K "next_key" "next_key" s_next_key f fd) (m:Bn mg) (c:Cn mg) (g_Reader_next_long:MFnX P w K mg base 4 C "next_long" ["self","most"] (spNLong K C CB)) (g_Reader_must:MFnX P w K mg base 3 C "must" ["self","right"] (spMust K C CB)) (g_next_letter:FnX P w K mg base 4 "next_letter" ["reader"] (spSign K C CB gLow)) :
  Yj P w K mg base (CX1 P w) 5 f fd ["reader","last"] (spNKey K C CB):=by
 refine F.okX sc_next_key (fun vs H Q E h=>?_) (fun cdv A outer s H vs Q E hr h=>?_)
 ·obtain ⟨r,sA,bs,a,e,y,rfl,_⟩:=h
  rfl
 obtain ⟨r,sA,bs,a,e,y,rfl,hd,q⟩:=h
 refine ⟨_,(@Zj _ _ _ _ _ (@Zk _ 2 _ _ _ _ _ sc_next_key.nd rfl (by trivial) (@Vb _ _ _ _ _ _ _ _ _ _ _ _ _ _ _ g_Reader_next_long Y3 hr.m (pv 0) (Zf (@pe_globN _ _ _ _ rfl c.LONGEST_NAME (by decide)) Zx rfl) rfl rfl rfl) rfl (by trivial)) (@Zj _ _ _ _ _ (@Yz _ _ _ _ (@Vb _ _ _ _ _ _ _ _ _ _ _ _ _ _ _ g_Reader_must Y3 hr.m (pv 0) (Zf (@Vh _ _ _ _ _ _ _ _ op_gt (pv 2) Zz (Zd _)) Zx rfl) rfl rfl rfl) rfl) (@Zj _ _ _ _ _ (@Zk _ 3 _ _ _ _ _ sc_next_key.nd rfl (by trivial) Zp rfl (by trivial)) (@Zj _ _ _ _ _ (@ps_for _ _ _ _ _ _ _ _ PassesOwn.leaving rfl (@Yi _ _ _ _ _ _ rfl m.range (Zf (pv 2) Zx rfl) (by trivial)) (@Zo _ 4 _ _ sc_next_key.nd rfl (by trivial) (by trivial)) (@Zv _ _ _ (@Zk _ 3 _ _ _ _ _ sc_next_key.nd rfl (by trivial) (@Zg _ _ _ _ _ _ _ _ Vy (pv 3) (@Vt _ _ _ _ _ _ _ _ _ _ _ g_next_letter Y3 hr.m rfl (Zf (pv 0) Zx rfl) (by decide) rfl rfl)) rfl (by trivial))) (by trivial)) (@Zj _ _ _ _ _ (@Yz _ _ _ _ (@Vb _ _ _ _ _ _ _ _ _ _ _ _ _ _ _ g_Reader_must Y3 hr.m (pv 0) (Zf (@Vh _ _ _ _ _ _ _ _ op_gt_str (pv 3) (pv 1) (Zd _)) Zx rfl) rfl rfl rfl) rfl) (@Zv _ _ _ (@Zc _ _ _ _ (pv 3)))))))), ?_⟩
 obtain ⟨dx,h,hs⟩:=hd.rd.ex
 unfold rKey at q
 refine ⟨_,rfl,r,dx,_,rfl,h,rfl,r,sA,bs,a,e,_,rfl,hd,by decide,by decide, ?_⟩
 cases er:Z7 bs 8 a e with
 | no q' =>
  rw [er] at q
  exact BB.pass q
 | ok n p =>
  rw [er] at q
  obtain ⟨p1,p2,p3⟩:=Z4 er
  have n0:=Vn hd.by' hd.ln er
  intro y' H1 k1 d1 ey
  subst ey
  obtain ⟨dx1,h1,hs1⟩:=d1.rd.ex
  refine ⟨_,rfl,r,dx1,_,rfl,h1,rfl,_,rfl,_,_,rfl,rfl,r,sA,bs,p,e,_,rfl,d1,by omega,fun z=>?_,fun z=>?_⟩
  ·have zn:0<n:=of_decide_eq_true z
   have q:Out K C CB r sA bs H e vS Q E (if 0<n then _ else _):=q
   rw [if_pos zn] at q
   obtain ⟨n,rfl⟩:=Int.eq_ofNat_of_zero_le n0
   have q:Out K C CB r sA bs H e vS Q E (match Vg bs gLow e n p with | .no q'=>.no q' | .ok xs q'=>if y.cps.toList<xs then .ok (sOf xs) q' else .no (q' - 1)):=q
   refine ⟨_,rfl,_,rfl,by omega,by omega,V1 (n:=((n:Nat):Int).toNat) (fun i σ H2=>∃ xs:List Nat,(∃ o,σ=[some (.ref r),some (.str y),some (.int (n:Int)),some (.str (sOf xs)),o])/\Kp r H H2/\RE K C r sA bs H2 (p+i) e/\i<=n/\xs.length=i/\Vg bs gLow e n p=appR xs (Vg bs gLow e (n - i) (p+i))) ⟨[],⟨_,rfl⟩,k1,d1,by omega,rfl, ?_⟩ ?_ ?_⟩
   ·show _=appR [] (Vg bs gLow e n p)
    cases Vg bs gLow e n p <;> rfl
   ·rintro i σ H2 hi ⟨xs,⟨o,rfl⟩,k2,d2,hin,xl,es⟩
    rw [show n - i=(n - (i+1))+1 by omega] at es
    refine ⟨_,rfl,_,rfl,r,sA,bs,p+i,e,rfl,d2,fun g H3 k3 d3=>?_,fun g=>?_⟩
    ·rw [rSig_succ g,appR_app] at es
     refine ⟨_,_,rfl,rfl, ?_,xs++[(bs.getD (p+i) 0).toNat],⟨some (.int (0+(i:Int))), ?_⟩,k2.trans k3,d3,by omega,by rw [List.length_append,xl]; rfl,es⟩
     ·rw [sOf_len]
      exact Nat.le_trans (show _<=1000 by show xs.length+1<=_; omega) (by decide)
     ·rw [<-sOf_more]; rfl
    ·rw [rSig_bad g] at es
     rw [es] at q
     exact BB.pass (σ:=[]) (BB.kp q k2)
   ·rintro σ H2 ⟨xs,⟨o,rfl⟩,k2,d2,hin,xl,es⟩
    have et:((n:Nat):Int).toNat=n:=by omega
    rw [et] at d2 xl es
    rw [show n - n=0 by omega] at es
    have es:Vg bs gLow e n p=.ok xs (p+n):=es.trans (by show Rs.ok (xs++[]) _=_; rw [List.append_nil])
    rw [es] at q
    obtain ⟨dx2,h2,hs2⟩:=d2.rd.ex
    refine ⟨_,rfl,r,dx2,_,rfl,h2,rfl,_,rfl,_,rfl,_,_,rfl,rfl,r,sA,bs,p+n,e,_,rfl,d2,by omega,fun z=>?_,fun z=>?_⟩
    ·have zl:y.cps.toList<xs:=by have:=of_decide_eq_true z; rw [<-Uz xs]; exact this
     exact ⟨_,rfl,(q.ok (if_pos zl)) _ _ k2 d2 rfl⟩
    ·have zl:¬ y.cps.toList<xs:=by have:=of_decide_eq_false z; rw [<-Uz xs]; exact this
     exact ((q.no (if_neg zl)).kp k2).pass
  ·have zn:¬ 0<n:=of_decide_eq_false z
   have q:Out K C CB r sA bs H e vS Q E (if 0<n then _ else _):=q
   rw [if_neg zn] at q
   exact BB.pass (BB.kp q k1)
theorem ok_next_label (F:Uf K "next_label" "next_label" s_next_label f fd) (g_next_number:FnX P w K mg base 5 "next_number" ["reader","last"] (spNNum K C CB)) (g_next_key:FnX P w K mg base 5 "next_key" ["reader","last"] (spNKey K C CB)) :
  Yj P w K mg base (CX1 P w) 6 f fd ["reader","sort","last"] (spNLabel K C CB):=by
 refine F.okX sc_next_label (fun vs H Q E h=>?_) (fun cdv A outer s H vs Q E hr h=>?_)
 ·obtain ⟨r,sA,bs,a,e,s',l,rfl,_⟩:=h
  rfl
 obtain ⟨r,sA,bs,a,e,s',l,rfl,hd,lk,q⟩:=h
 refine ⟨_,(@Zj _ _ _ _ _ (@Ze _ _ _ _ _ _ _ _ (@Zm _ _ _ _ _ _ _ _ Ym (pv 1) Zp (Zd _)) (@Zv _ _ _ (@Zc _ _ _ _ (@Vt _ _ _ _ _ _ _ _ _ _ _ g_next_key Y3 hr.m rfl (Zf (pv 0) (Zf (pv 2) Zx rfl) rfl) (by decide) rfl rfl))) Zl) (@Zj _ _ _ _ _ (@Ze _ _ _ _ _ _ _ _ (@Zm _ _ _ _ _ _ _ _ Ym (pv 1) Zp (Zd _)) (@Zv _ _ _ (@Zc _ _ _ _ (@Vt _ _ _ _ _ _ _ _ _ _ _ g_next_number Y3 hr.m rfl (Zf (pv 0) (Zf (pv 2) Zx rfl) rfl) (by decide) rfl rfl))) Zl) (@Zv _ _ _ (@Zc _ _ _ _ Ys)))), ?_⟩
 refine ⟨_,rfl,rfl,_,rfl, ?_⟩
 rcases lk with ⟨rfl,rfl⟩ | ⟨rfl,x,rfl⟩ | ⟨rfl,n,rfl⟩
 ·exact Z2 (by decide +kernel) ⟨_,rfl,rfl,_,rfl,Z2 (by decide +kernel) (q _ H (Kp.refl H) hd rfl)⟩
 ·refine Yv (by decide +kernel) ⟨_,rfl,_,rfl,r,sA,bs,a,e,x,rfl,hd, ?_⟩
  have q:Out K C CB r sA bs H e vL Q E (match rKey bs x a e with | .ok x q=>.ok (.key x) q | .no q=>.no q):=q
  cases er:rKey bs x a e with
  | no q'=>rw [er] at q; exact BB.pass (σ:=[]) q
  | ok z q' =>
   rw [er] at q
   intro v H' k d ev
   subst ev
   exact q _ H' k d rfl
 ·refine Z2 (by decide +kernel) ⟨_,rfl,rfl,_,rfl,Yv (by decide +kernel) ⟨_,rfl,_,rfl,r,sA,bs,a,e,n,rfl,hd, ?_⟩⟩
  have q:Out K C CB r sA bs H e vL Q E (match rNum bs n a e with | .ok n q=>.ok (.num n) q | .no q=>.no q):=q
  cases er:rNum bs n a e with
  | no q'=>rw [er] at q; exact BB.pass (σ:=[]) q
  | ok z q' =>
   rw [er] at q
   intro v H' k d ev
   subst ev
   exact q _ H' k d rfl
end
structure BelowOk (K:W.Frag) (w:World) (a:Addr):Prop where
 top:TopD K w a
 at':∀ s,s<=2->∃ u,W.nsIn K a (srt s)=some (some u)/\Yq (lbV (lb0 s)) u
def vD (K:W.Frag):IT->V->Hp->Prop:=fun it v H=>Y1 K H (toD it) v
def spNItem (K:W.Frag) (C CB:Addr) (n:Nat):Sp:=fun vs H Q E=>n<=100/\∃ r sA bs a e,vs=[.ref r,.int (101 - (n:Int))]/\RE K C r sA bs H a e/\Out K C CB r sA bs H e (vD K) Q E (Yl bs n a e)
def spPrev (K:W.Frag) (C CB:Addr):Nat->Sp
 | 0=>fun _ _ _ _=>False
 | n+1=>spNItem K C CB n
theorem mkD2 {K:W.Frag} {H:Hp} {a b:D} {p:Addr} {x y:V} (q:Yg K H p [x,y]) (h1:Y1 K H a x) (h2:Y1 K H b y):Y1 K H (.tup [a,b]) (.ref p):=⟨p,_,rfl,q,x,_,rfl,h1,y,_,rfl,h2,rfl⟩
theorem mkD3 {K:W.Frag} {H:Hp} {a b c:D} {p:Addr} {x y z:V} (q:Yg K H p [x,y,z]) (h1:Y1 K H a x) (h2:Y1 K H b y) (h3:Y1 K H c z):Y1 K H (.tup [a,b,c]) (.ref p):=⟨p,_,rfl,q,x,_,rfl,h1,y,_,rfl,h2,z,_,rfl,h3,rfl⟩
theorem areD_snoc {K:W.Frag} {H:Hp}:∀ {ds:List D} {zs:List V} {d:D} {z:V},Zi K H ds zs->Y1 K H d z->Zi K H (ds++[d]) (zs++[z])
 | [],zs,d,z,h,i=>by
  have:zs=[]:=h
  subst this
  exact ⟨z,[],rfl,i,rfl⟩
 | a::ds,zs,d,z,h,i=>by
  obtain ⟨v,r,rfl,q,t⟩:=h
  exact ⟨v,r++[z],rfl,q,areD_snoc t i⟩
theorem prtDs_snoc:∀ {ls:List Lb} {es:List IT} {l:Lb} {e:IT},ls.length=es.length->Y5 (ls++[l]) (toDs (es++[e]))=Y5 ls (toDs es)++[prtD l (toD e)]
 | [],[],_,_,_=>by simp [Y5,toDs]
 | [],_::_,_,_,h=>by simp at h
 | _::_,[],_,_,h=>by simp at h
 | l0::ls,e0::es,l,e,h=>by
  have ih:=prtDs_snoc (ls:=ls) (es:=es) (l:=l) (e:=e) (by simpa using h)
  simp only [List.cons_append,toDs,Y5]
  rw [ih]
def appM (ls0:List Lb) (es0:List IT):Rs (List Lb × List IT)->Rs (List Lb × List IT)
 | .ok (ls,es) q=>.ok (ls0++ls,es0++es) q
 | .no q=>.no q
theorem appM_app (ls:List Lb) (es:List IT) (l:Lb) (it:IT) (r:Rs (List Lb × List IT)):appM ls es (appM [l] [it] r)=appM (ls++[l]) (es++[it]) r:=by
 cases r with
 | ok x q=>obtain ⟨a,b⟩:=x; simp [appM]
 | no q=>rfl
theorem appM_nil (r:Rs (List Lb × List IT)):appM [] [] r=r:=by
 cases r with
 | ok x q=>obtain ⟨a,b⟩:=x; rfl
 | no q=>rfl
section
variable {bs:List Int}
theorem rSig_pos {g:Int->Bool} {e:Nat}:∀ {k p:Nat} {xs:List Nat} {q:Nat},Vg bs g e k p=.ok xs q->p<=q
 | 0,p,xs,q,h=>by cases h; exact Nat.le_refl _
 | k+1,p,xs,q,h=>by
  by_cases c:p<e/\g (bs.getD p 0)=true
  ·rw [rSig_succ c] at h
   cases e':Vg bs g e k (p+1) with
   | ok ys q' =>
    rw [e'] at h
    cases h
    have:=rSig_pos e'
    omega
   | no q'=>rw [e'] at h; cases h
  ·rw [rSig_bad c] at h
   cases h
theorem rNum_pos {m:Int} {p e:Nat} {v:Int} {q:Nat} (h:rNum bs m p e=.ok v q):p<q:=by
 unfold rNum at h
 cases er:Z7 bs 999 p e with
 | no q'=>rw [er] at h; cases h
 | ok v' q' =>
  rw [er] at h
  have:=(Z4 er).1
  have h:(if m<v' then Rs.ok v' q' else .no (q' - 1))=_:=h
  split at h
  ·cases h; exact this
  ·cases h
theorem rKey_pos {m:Str} {p e:Nat} {v:Str} {q:Nat} (h:rKey bs m p e=.ok v q):p<q:=by
 unfold rKey at h
 cases er:Z7 bs 8 p e with
 | no q'=>rw [er] at h; cases h
 | ok v' q' =>
  rw [er] at h
  have p1:=(Z4 er).1
  have h:(if 0<v' then _ else _)=Rs.ok v q:=h
  split at h
  ·cases es:Vg bs gLow e v'.toNat q' with
   | no q2=>rw [es] at h; cases h
   | ok xs q2 =>
    rw [es] at h
    have p2:=rSig_pos es
    have h:(if m.cps.toList<xs then Rs.ok (sOf xs) q2 else .no (q2 - 1))=_:=h
    split at h
    ·cases h; omega
    ·cases h
  ·cases h
theorem rLab_pos {s:Nat} {l l':Lb} {p e q:Nat} (k:LbK s l) (h:rLab bs s l p e=.ok l' q):p<=q/\LbK s l':=by
 rcases k with ⟨rfl,rfl⟩ | ⟨rfl,x,rfl⟩ | ⟨rfl,n,rfl⟩
 ·cases h; exact ⟨Nat.le_refl _,.inl ⟨rfl,rfl⟩⟩
 ·have h:(match rKey bs x p e with | .ok x q=>Rs.ok (.key x) q | .no q=>.no q)=Rs.ok l' q:=h
  cases er:rKey bs x p e with
  | no q'=>rw [er] at h; cases h
  | ok y q'=>rw [er] at h; cases h; exact ⟨Nat.le_of_lt (rKey_pos er),.inr (.inl ⟨rfl,_,rfl⟩)⟩
 ·have h:(match rNum bs n p e with | .ok n q=>Rs.ok (.num n) q | .no q=>.no q)=Rs.ok l' q:=h
  cases er:rNum bs n p e with
  | no q'=>rw [er] at h; cases h
  | ok y q'=>rw [er] at h; cases h; exact ⟨Nat.le_of_lt (rNum_pos er),.inr (.inr ⟨rfl,_,rfl⟩)⟩
theorem rRoom_step {f:Nat->Nat->Rs IT} {s e k p q q':Nat} {l l':Lb} {it:IT} (h:p<e) (h1:rLab bs s l p e=.ok l' q) (h2:f q e=.ok it q'):V2 bs f s e (k+1) l p=appM [l'] [it] (V2 bs f s e k l' q'):=by
 show (if p<e then _ else _)=_
 rw [if_pos h,h1]
 show (match f q e with | .no q'=>Rs.no q' | .ok it q'=>_)=_
 rw [h2]
 show (match V2 bs f s e k l' q' with | .no r=>Rs.no r | .ok (ls,es) r=>.ok (l'::ls,it::es) r)=_
 cases V2 bs f s e k l' q' <;> rfl
theorem rRoom_no1 {f:Nat->Nat->Rs IT} {s e k p q:Nat} {l:Lb} (h:p<e) (h1:rLab bs s l p e=.no q):V2 bs f s e (k+1) l p=.no q:=by
 show (if p<e then _ else _)=_
 rw [if_pos h,h1]
theorem rRoom_no2 {f:Nat->Nat->Rs IT} {s e k p q q':Nat} {l l':Lb} (h:p<e) (h1:rLab bs s l p e=.ok l' q) (h2:f q e=.no q'):V2 bs f s e (k+1) l p=.no q':=by
 show (if p<e then _ else _)=_
 rw [if_pos h,h1]
 show (match f q e with | .no q'=>Rs.no q' | .ok it q'=>_)=_
 rw [h2]
theorem rRoom_end {f:Nat->Nat->Rs IT} {s e k p:Nat} {l:Lb} (h:¬ p<e):V2 bs f s e k l p=.ok ([],[]) p:=by
 cases k with
 | zero=>rfl
 | succ k=>show (if p<e then _ else _)=_; rw [if_neg h]
theorem rRoom_pos {f:Nat->Nat->Rs IT} {s e:Nat} (hf:∀ p q it,f p e=.ok it q->p<=q):∀ {k p:Nat} {l:Lb} {x:List Lb × List IT} {q:Nat},LbK s l->V2 bs f s e k l p=.ok x q->p<=q
 | 0,p,l,x,q,_,h=>by cases h; exact Nat.le_refl _
 | k+1,p,l,x,q,lk,h=>by
  by_cases c:p<e
  ·cases e1:rLab bs s l p e with
   | no q1=>rw [rRoom_no1 c e1] at h; cases h
   | ok l' q1 =>
    obtain ⟨p1,lk'⟩:=rLab_pos lk e1
    cases e2:f q1 e with
    | no q2=>rw [rRoom_no2 c e1 e2] at h; cases h
    | ok it q2 =>
     rw [rRoom_step c e1 e2] at h
     cases e3:V2 bs f s e k l' q2 with
     | no q3=>rw [e3] at h; cases h
     | ok y q3 =>
      rw [e3] at h
      have:=rRoom_pos hf lk' e3
      have:=hf _ _ _ e2
      cases h
      omega
  ·rw [rRoom_end c] at h
   cases h
   exact Nat.le_refl _
theorem lb0_k {s:Nat} (h:s<=2):LbK s (lb0 s):=by
 match s,h with
 | 0,_=>exact .inl ⟨rfl,rfl⟩
 | 1,_=>exact .inr (.inl ⟨rfl,_,rfl⟩)
 | 2,_=>exact .inr (.inr ⟨rfl,_,rfl⟩)
theorem rItem_pos:∀ {n p e:Nat} {it:IT} {q:Nat},Yl bs n p e=.ok it q->p<q
 | 0,_,_,_,_,h=>by cases h
 | n+1,p,e,it,q,h=>by
  unfold Yl at h
  simp only at h
  split at h
  ·split at h
   ·cases er:Z7 bs 2000000000000000000 (p+1) e with
    | no q'=>rw [er] at h; cases h
    | ok v q'=>rw [er] at h; cases h; have:=(Z4 er).1; omega
   ·split at h
    ·unfold rText at h
     cases er:Z7 bs 200 (p+1) e with
     | no q'=>rw [er] at h; cases h
     | ok v q' =>
      rw [er] at h
      simp only at h
      cases es:Vg bs Ug e v.toNat q' with
      | no q2=>rw [es] at h; cases h
      | ok xs q2 =>
       rw [es] at h
       cases h
       have:=(Z4 er).1
       have:=rSig_pos es
       omega
    ·split at h
     ·cases er:rNum bs 0 (p+1) e with
      | no q'=>rw [er] at h; cases h
      | ok v q' =>
       rw [er] at h
       simp only at h
       cases ei:Yl bs n q' e with
       | no q2=>rw [ei] at h; cases h
       | ok it' q2 =>
        rw [ei] at h
        cases h
        have:=rNum_pos er
        have:=rItem_pos ei
        omega
     ·split at h
      ·rename_i hh
       cases er:Z7 bs 1000000 (p+1) e with
       | no q'=>rw [er] at h; cases h
       | ok v q' =>
        rw [er] at h
        simp only at h
        split at h
        ·cases ei:V2 bs (fun p e=>Yl bs n p e) (bs.getD p 0 - 2).toNat (q'+v.toNat) v.toNat (lb0 (bs.getD p 0 - 2).toNat) q' with
         | no q2=>rw [ei] at h; cases h
         | ok x q2 =>
          rw [ei] at h
          obtain ⟨ls,es⟩:=x
          cases h
          have:=(Z4 er).1
          have:=rRoom_pos (fun p q it h=>Nat.le_of_lt (rItem_pos h)) (lb0_k (by omega)) ei
          omega
        ·cases h
      ·cases h
  ·cases h
end
section
variable {P:Program} {w:World} {K:W.Frag} {mg:Str->Option Value} {base:Heap} {f:Addr} {fd:FuncData} {C CB aS aB:Addr}
theorem ok_next_item (F:Uf K "next_item" "next_item" s_next_item f fd) (m:Bn mg) (c:Cn mg) (co:RdOk K C) (so:SortsOk K aS) (x_SORTS:mg "SORTS" = some (.ref aS)) (bo:BelowOk K w aB) (x_BELOW_LABELS:mg "BELOW_LABELS" = some (.ref aB)) (bd:Vc K fd ["reader","deep"] []) (mf:mg "next_item" = some (.ref f))
  (g_Reader_next_byte:MFnX P w K mg base 3 C "next_byte" ["self"] (spNByte K C CB)) (g_Reader_must:MFnX P w K mg base 3 C "must" ["self","right"] (spMust K C CB)) (g_Reader_next_long:MFnX P w K mg base 4 C "next_long" ["self","most"] (spNLong K C CB))
  (g_Reader_enter_room:MFnX P w K mg base 5 C "enter_room" ["self"] (spEnter K C CB)) (g_Reader_leave_room:MFn P w K mg base 1 C "leave_room" ["self","around"] (spLeave K C))
  (g_unfolded:Fn P w K mg base 1 "unfolded" ["n"] spUnf) (g_next_text:FnX P w K mg base 5 "next_text" ["reader"] (spNText K C CB)) (g_next_number:FnX P w K mg base 5 "next_number" ["reader","last"] (spNNum K C CB)) (g_next_label:FnX P w K mg base 6 "next_label" ["reader","sort","last"] (spNLabel K C CB)) :
  ∀ n,Yj P w K mg base (CX1 P w) (n+8) f fd ["reader","deep"] (spNItem K C CB n):=by
 intro n
 have gi:FnX P w K mg base (n+7) "next_item" ["reader","deep"] (spPrev K C CB n):=by
  cases n with
  | zero=>exact ⟨f,fd,⟨fun vs H Q E h=>h.elim,fun A outer s H args us vs Q E _ _ _ _ h=>h.elim⟩,bd,F.kp,mf⟩
  | succ n=>exact ⟨f,fd,ok_next_item F m c co so x_SORTS bo x_BELOW_LABELS bd mf g_Reader_next_byte g_Reader_must g_Reader_next_long g_Reader_enter_room g_Reader_leave_room g_unfolded g_next_text g_next_number g_next_label n,bd,F.kp,mf⟩
 have g_next_item:=gi
 refine F.okX Y2 (fun vs H Q E h=>?_) (fun cdv A outer s H vs Q E hr h=>?_)
 ·obtain ⟨_,r,sA,bs,a,e,rfl,_⟩:=h
  rfl
 obtain ⟨n100,r,sA,bs,a,e,rfl,hd,q⟩:=h
 refine ⟨_,(@Zj _ _ _ _ _ (@Zk _ 2 _ _ _ _ _ Y2.nd rfl (by trivial) (@pe_methX0 _ _ _ _ _ _ _ _ _ _ _ _ g_Reader_next_byte Y3 hr.m (pv 0) rfl) rfl (by trivial)) (@Zj _ _ _ _ _ (@Yz _ _ _ _ (@Vb _ _ _ _ _ _ _ _ _ _ _ _ _ _ _ g_Reader_must Y3 hr.m (pv 0) (Zf (@pe_and _ _ _ _ _ _ _ (@Vh _ _ _ _ _ _ _ _ op_lt (pv 2) (@Z9 _ _ _ _ _ _ _ _ _ Yy rfl m.len b_len (Zf (@Vw _ _ _ _ rfl x_SORTS (by decide)) Zx rfl) (by decide) (by decide) rfl rfl) (Zd _)) (@pe_one _ _ _ _ _ (@Vh _ _ _ _ _ _ _ _ op_le (pv 1) (@pe_globN _ _ _ _ rfl c.DEEPEST (by decide)) (Zd _)))) Zx rfl) rfl rfl rfl) rfl) (@Zj _ _ _ _ _ (@Zk _ 3 _ _ _ _ _ Y2.nd rfl (by trivial) (@Za _ _ _ _ _ _ _ Yh (@Vw _ _ _ _ rfl x_SORTS (by decide)) (pv 2) (fun _ _=>rfl)) rfl (by trivial)) (@Zj _ _ _ _ _ (@Ze _ _ _ _ _ _ _ _ (@Zm _ _ _ _ _ _ _ _ Ym (pv 3) Zp (Zd _)) (@Zv _ _ _ (@Zc _ _ _ _ (@Zn _ _ _ _ _ (Zf (pv 3) (Zf (@Zy _ _ _ _ _ _ _ _ _ _ g_unfolded hr.m rfl (Zf (@Vb _ _ _ _ _ _ _ _ _ _ _ _ _ _ _ g_Reader_next_long Y3 hr.m (pv 0) (Zf (@Zg _ _ _ _ _ _ _ _ Vl Zz (@pe_globN _ _ _ _ rfl c.GREATEST_WHOLE (by decide))) Zx rfl) rfl rfl rfl) Zx rfl) (by decide) rfl rfl) Zx rfl) rfl)))) Zl) (@Zj _ _ _ _ _ (@Ze _ _ _ _ _ _ _ _ (@Zm _ _ _ _ _ _ _ _ Ym (pv 3) Zp (Zd _)) (@Zv _ _ _ (@Zc _ _ _ _ (@Zn _ _ _ _ _ (Zf (pv 3) (Zf (@Vt _ _ _ _ _ _ _ _ _ _ _ g_next_text Y3 hr.m rfl (Zf (pv 0) Zx rfl) (by decide) rfl rfl) Zx rfl) rfl)))) Zl) (@Zj _ _ _ _ _ (@Ze _ _ _ _ _ _ _ _ (@Zm _ _ _ _ _ _ _ _ Ym (pv 3) Zp (Zd _)) (@Zj _ _ _ _ _ (@Zk _ 4 _ _ _ _ _ Y2.nd rfl (by trivial) (@Vt _ _ _ _ _ _ _ _ _ _ _ g_next_number Y3 hr.m rfl (Zf (pv 0) (Zf Zz Zx rfl) rfl) (by decide) rfl rfl) rfl (by trivial)) (@Zv _ _ _ (@Zc _ _ _ _ (@Zn _ _ _ _ _ (Zf (pv 3) (Zf (pv 4) (Zf (@Vt _ _ _ _ _ _ _ _ _ _ _ g_next_item Y3 hr.m rfl (Zf (pv 0) (Zf (@Zg _ _ _ _ _ _ _ _ Yx (pv 1) Zz) Zx rfl) rfl) (by decide) rfl rfl) Zx rfl) rfl) rfl))))) Zl) (@Zj _ _ _ _ _ (@Zk _ 5 _ _ _ _ _ Y2.nd rfl (by trivial) (@Yf _ _ _ _ Zx) rfl (by trivial)) (@Zj _ _ _ _ _ (@Zk _ 6 _ _ _ _ _ Y2.nd rfl (by trivial) (@Za _ _ _ _ _ _ _ ix_topD (@Vw _ _ _ _ rfl x_BELOW_LABELS (by decide)) (pv 3) (fun _ _=>rfl)) rfl (by trivial)) (@Zj _ _ _ _ _ (@Zk _ 7 _ _ _ _ _ Y2.nd rfl (by trivial) (@pe_methX0 _ _ _ _ _ _ _ _ _ _ _ _ g_Reader_enter_room Y3 hr.m (pv 0) rfl) rfl (by trivial)) (@Zj _ _ _ _ _ (@ps_while _ _ _ _ _ _ PassesOwn.leaving (@Zm _ _ _ _ _ _ _ _ op_lt (@Um _ _ _ _ _ (pv 0) rfl) (@Um _ _ _ _ _ (pv 0) rfl) (Zd _)) (@Zj _ _ _ _ _ (@Zk _ 6 _ _ _ _ _ Y2.nd rfl (by trivial) (@Vt _ _ _ _ _ _ _ _ _ _ _ g_next_label Y3 hr.m rfl (Zf (pv 0) (Zf (pv 3) (Zf (pv 6) Zx rfl) rfl) rfl) (by decide) rfl rfl) rfl (by trivial)) (@Zj _ _ _ _ _ (@Zk _ 8 _ _ _ _ _ Y2.nd rfl (by trivial) (@Vt _ _ _ _ _ _ _ _ _ _ _ g_next_item Y3 hr.m rfl (Zf (pv 0) (Zf (@Zg _ _ _ _ _ _ _ _ Yx (pv 1) Zz) Zx rfl) rfl) (by decide) rfl rfl) rfl (by trivial)) (@Zv _ _ _ (@Yz _ _ _ _ (@pe_bm _ _ _ _ _ _ _ _ _ _ _ _ PySem.F.plainAttrs_list PySem.F.slot_list_append PySem.F.type_list_append V0 (pv 5) (Zf (@pe_ifExp _ _ _ _ _ _ _ _ (@Zm _ _ _ _ _ _ _ _ Ym (pv 3) Zp (Zd _)) (pv 8) (@Zn _ _ _ _ _ (Zf (pv 6) (Zf (pv 8) Zx rfl) rfl))) Zx rfl) (by trivial) (by trivial) (by trivial) (by trivial) (by trivial)) rfl))))) (@Zj _ _ _ _ _ (@Yz _ _ _ _ (@pe_methF _ _ _ _ _ _ _ _ _ _ _ _ _ _ g_Reader_leave_room hr.m (pv 0) (Zf (pv 7) Zx rfl) rfl rfl rfl) rfl) (@Zv _ _ _ (@Zc _ _ _ _ (@Zn _ _ _ _ _ (Zf (pv 3) (Zf (@Yn _ _ _ _ _ _ _ _ _ Yu rfl m.tuple b_tuple (Zf (pv 5) Zx rfl) (by trivial) (by trivial) (by trivial) (by trivial)) Zx rfl) rfl))))))))))))))), ?_⟩
 obtain ⟨dx,h,hs⟩:=hd.rd.ex
 refine ⟨_,rfl,r,dx,_,rfl,h,rfl,r,sA,bs,a,e,rfl,hd,fun ae=>?_,fun ae H1 k1 d1=>?_⟩
 ·have b:Yl bs n a e=.no e:=by
   cases n with
   | zero=>rw [<-ae]; rfl
   | succ n=>unfold Yl; rw [if_neg (by omega),ae]
  exact (q.no b).pass
 obtain ⟨dx1,h1,hs1⟩:=d1.rd.ex
 obtain ⟨_,c0,c255⟩:=hd.by'.at (p:=a) (by have:=hd.ln; omega)
 have no:Yl bs n a e=.no a->BB CB E r H1 (a+1 - 1):=fun z=>(q.no z).kp k1
 refine ⟨_,rfl,r,dx1,_,rfl,h1,rfl,_,rfl,aS,_,rfl,.inr (so.sq _),_,_,rfl,rfl,_,rfl, ?_⟩
 by_cases b6:bs.getD a 0<6
 ·refine Yv (decide_eq_true b6) ⟨_,rfl,_,_,rfl,rfl,r,sA,bs,a+1,e,_,rfl,d1,by omega,fun z=>?_,fun z=>?_⟩
  ·have n1:101 - (n:Int)<=100:=of_decide_eq_true z
   obtain ⟨n,rfl⟩:∃ n',n=n'+1:=⟨n - 1,by omega⟩
   have dn:([V.ref r,V.int (101 - ((n+1:Nat):Int)+1)]:List V)=[.ref r,.int (101 - (n:Int))]:=by rw [show (101 - ((n+1:Nat):Int)+1)=101 - (n:Int) by omega]
   clear no
   unfold Yl at q
   simp only at q
   rw [if_pos ae] at q
   generalize hb:bs.getD a 0=b at q c0 c255 b6
   rcases (show b=0\/b=1\/b=5\/(b=2\/b=3\/b=4) by omega) with rfl | rfl | rfl | hb3
   ·rw [if_pos rfl] at q
    refine ⟨_,rfl,aS,_,_,_,rfl,rfl,so.sq _,rfl, ?_⟩
    refine ⟨_,rfl,rfl,_,rfl,Yv (by decide +kernel) ?_⟩
    refine ⟨_,rfl,_,rfl,r,dx1,_,rfl,h1,rfl,_,_,rfl,rfl,.inl ⟨by decide,by decide⟩,r,sA,bs,a+1,e,_,rfl,d1,by decide,by decide, ?_⟩
    show Out K C CB r sA bs H1 e vI _ _ (Z7 bs 2000000000000000000 (a+1) e)
    cases er:Z7 bs 2000000000000000000 (a+1) e with
    | no q'=>rw [er] at q; exact (BB.kp q k1).pass
    | ok v q' =>
     rw [er] at q
     intro y H2 k2 d2 ey
     subst ey
     refine ⟨v,rfl,(sz 2),fun p hp'=>?_⟩
     have s3:=Zt.lay (o:=.tup [.str "whole",.int (unf v)]) hp'
     exact q _ _ ((k1.trans k2).trans (Kp.same s3)) (d2.same s3) (mkD2 (Yg.of Zq) rfl rfl)
   ·rw [if_neg (by decide),if_pos rfl] at q
    refine ⟨_,rfl,aS,_,_,_,rfl,rfl,so.sq _,rfl, ?_⟩
    refine ⟨_,rfl,rfl,_,rfl,Z2 (by decide +kernel) ?_⟩
    refine ⟨_,rfl,rfl,_,rfl,Yv (by decide +kernel) ?_⟩
    refine ⟨_,rfl,_,rfl,r,sA,bs,a+1,e,rfl,d1, ?_⟩
    cases er:rText bs (a+1) e with
    | no q'=>rw [er] at q; exact BB.pass (σ:=[]) (BB.kp q k1)
    | ok x q' =>
     rw [er] at q
     intro y H2 k2 d2 ey
     subst ey
     refine ⟨(sz 2),fun p hp'=>?_⟩
     have s3:=Zt.lay (o:=.tup [.str "text",.str x]) hp'
     exact q _ _ ((k1.trans k2).trans (Kp.same s3)) (d2.same s3) (mkD2 (Yg.of Zq) rfl rfl)
   ·rw [if_neg (by decide),if_neg (by decide),if_pos rfl] at q
    refine ⟨_,rfl,aS,_,_,_,rfl,rfl,so.sq _,rfl, ?_⟩
    refine ⟨_,rfl,rfl,_,rfl,Z2 (by decide +kernel) ?_⟩
    refine ⟨_,rfl,rfl,_,rfl,Z2 (by decide +kernel) ?_⟩
    refine ⟨_,rfl,rfl,_,rfl,Yv (by decide +kernel) ?_⟩
    refine ⟨_,rfl,r,sA,bs,a+1,e,0,rfl,d1, ?_⟩
    cases er:rNum bs 0 (a+1) e with
    | no q'=>rw [er] at q; exact BB.pass (σ:=[]) (BB.kp q k1)
    | ok k q' =>
     rw [er] at q
     intro y H2 k2 d2 ey
     subst ey
     refine ⟨_,rfl,_,rfl,_,rfl,_,rfl,_,_,rfl,rfl,by omega,r,sA,bs,q',e,dn,d2, ?_⟩
     have q:Out K C CB r sA bs H e (vD K) Q E (match Yl bs n q' e with | .ok it r=>.ok (.arm k it) r | .no r=>.no r):=q
     cases ei:Yl bs n q' e with
     | no q2=>rw [ei] at q; exact BB.pass (σ:=[]) (BB.kp q (k1.trans k2))
     | ok it q2 =>
      rw [ei] at q
      intro v H3 k3 d3 i3
      refine ⟨(sz 3),fun p hp'=>?_⟩
      have s4:=Zt.lay (o:=.tup [.str "arm",.int k,v]) hp'
      exact q _ _ (((k1.trans k2).trans k3).trans (Kp.same s4)) (d3.same s4) (mkD3 (Yg.of Zq) rfl rfl (Y1.up s4.up _ _ (Vq it) i3))
   ·rw [if_neg (by omega),if_neg (by omega),if_neg (by omega),if_pos hb3] at q
    obtain ⟨st,rfl,st2⟩:∃ st:Nat,b=((st+2:Nat):Int)/\st<=2:=⟨(b - 2).toNat,by omega,by omega⟩
    rw [show (((st+2:Nat):Int) - 2).toNat=st by omega] at q
    obtain ⟨n1',n2',n3'⟩:=srt_ne st
    obtain ⟨u0,hu0,ru0⟩:=bo.at' st st2
    refine ⟨_,rfl,aS,_,_,.str (srt st),rfl,rfl,so.sq _,L2.Z1 (by rw [List.getElem?_map,(sIndex st2).1]; rfl), ?_⟩
    refine ⟨_,rfl,rfl,_,rfl,Z2 (vs_ne n1') ?_⟩
    refine ⟨_,rfl,rfl,_,rfl,Z2 (vs_ne n2') ?_⟩
    refine ⟨_,rfl,rfl,_,rfl,Z2 (vs_ne n3') ?_⟩
    refine ⟨(sz 0),fun l hl0=>?_⟩
    have s2:=Zt.lay (o:=.lst []) hl0
    have d2:=d1.same s2
    obtain ⟨dx2,h2,_⟩:=d2.rd.ex
    refine ⟨_,rfl,aB,srt st,lbV (lb0 st),u0,rfl,rfl,bo.top,hu0,ru0, ?_⟩
    refine ⟨_,rfl,r,dx2,_,rfl,h2,rfl,r,sA,bs,a+1,e,rfl,d2, ?_⟩
    cases er:Z7 bs 1000000 (a+1) e with
    | no q'=>rw [er] at q; exact (BB.kp q (k1.trans (Kp.same s2))).pass
    | ok v q' =>
     rw [er] at q
     obtain ⟨p1,p2,p3⟩:=Z4 er
     have v0:=Vn hd.by' hd.ln er
     have q:Out K C CB r sA bs H e (vD K) Q E (if v<=(e:Int) - (q':Int) then _ else _):=q
     refine ite2 (fun cv=>?_) (fun cv=>?_)
     ·rw [if_pos cv] at q
      intro H3 k3 d3
      obtain ⟨e',he'⟩:∃ e',e'=q'+v.toNat:=⟨_,rfl⟩
      rw [<-he'] at q d3
      have hl3:H3 l=some (.lst []):=k3 _ _ (d2.rd.ne Zq) Zq
      have hnl:H l=none:=by
       cases hx:H l with
       | none=>rfl
       | some o =>
        by_cases hz:l=r
        ·rw [hz] at hl0; rw [h1] at hl0; cases hl0
        ·have:=k1 l o hz hx
         rw [hl0] at this; cases this
      have k03:Kp r H H3:=(k1.trans (Kp.same s2)).trans k3
      generalize hR:V2 bs (fun p e=>Yl bs n p e) st e' v.toNat (lb0 st) q'=R0 at q
      refine ⟨fun μ σ H4=>∃ (p k:Nat) (ls:List Lb) (es:List IT) (zs:List V) (lab:Lb) (o8:Option V),μ=e' - p/\σ=[some (.ref r),some (.int (101 - ((n+1:Nat):Int))),some (.int ((st+2:Nat):Int)),some (.str (srt st)),none,some (.ref l),some (lbV lab),some (.int e),o8]/\Kp r H H4/\RE K C r sA bs H4 p e'/\H4 l=some (.lst zs)/\ls.length=es.length/\zs.length+(e' - p)<=1000000/\Zi K H4 (Y5 ls (toDs es)) zs/\LbK st lab/\e' - p<=k/\R0=appM ls es (V2 bs (fun p e=>Yl bs n p e) st e' k lab p),
       ⟨e' - q',q',v.toNat,[],[],[],lb0 st,_,rfl,rfl,k03,d3,hl3,rfl,by simp only [List.length_nil]; omega,rfl,lb0_k st2,by omega,by rw [appM_nil,hR]⟩, ?_⟩
      rintro μ σ H4 ⟨p,k,ls,es,zs,lab,o8,rfl,rfl,k4,d4,hl4,hll,zl,ar,lk,kf,eR⟩
      obtain ⟨dx4,h4,_⟩:=d4.rd.ex
      refine ⟨_,rfl,r,C,dx4,_,_,rfl,h4,co.cl,co.at',rfl,_,rfl,r,C,dx4,_,_,rfl,h4,co.cl,co.end',rfl,_,_,rfl,rfl,_,rfl, ?_⟩
      by_cases pe:p<e'
      ·obtain ⟨k,rfl⟩:∃ k',k=k'+1:=⟨k - 1,by omega⟩
       refine Yv (decide_eq_true (by omega)) ⟨fun σ' H'=>∃ m',m'<e' - p/\_,fun σ' H' h=>h, ?_⟩
       refine ⟨_,rfl,_,rfl,_,rfl,r,sA,bs,p,e',st,lab,rfl,d4,lk, ?_⟩
       cases e1:rLab bs st lab p e' with
       | no q1 =>
        rw [rRoom_no1 pe e1] at eR
        rw [eR] at q
        exact BB.pass (σ:=[]) (BB.kp q k4)
       | ok lb q1 =>
        obtain ⟨pq1,lk'⟩:=rLab_pos lk e1
        intro y H5 k5 d5 ey
        subst ey
        refine ⟨_,rfl,_,rfl,_,_,rfl,rfl,by omega,r,sA,bs,q1,e',dn,d5, ?_⟩
        cases e2:Yl bs n q1 e' with
        | no q2 =>
         rw [rRoom_no2 pe e1 e2] at eR
         rw [eR] at q
         exact BB.pass (σ:=[]) (BB.kp q (k4.trans k5))
        | ok it q2 =>
         have pq2:=rItem_pos e2
         rw [rRoom_step pe e1 e2,appM_app] at eR
         intro v H6 k6 d6 i6
         have k46:=k5.trans k6
         have hl6:H6 l=some (.lst zs):=k46 _ _ (d4.rd.ne hl4) hl4
         have zlt:zs.length<sizeLine:=Nat.lt_of_le_of_lt (show _<=1000000 by omega) (by decide)
         have q2e:=d6.le
         have fin:∀ (z:V) (H7:Hp),Zt H6 H7->Y1 K H7 (prtD lb (toD it)) z->∃ m',m'<e' - p/\∃ (p k:Nat) (ls:List Lb) (es:List IT) (zs':List V) (lab:Lb) (o8:Option V),m'=e' - p/\([some (.ref r),some (.int (101 - ((n+1:Nat):Int))),some (.int ((st+2:Nat):Int)),some (.str (srt st)),none,some (.ref l),some (lbV lb),some (.int e),some v]:L2.St)=[some (.ref r),some (.int (101 - ((n+1:Nat):Int))),some (.int ((st+2:Nat):Int)),some (.str (srt st)),none,some (.ref l),some (lbV lab),some (.int e),o8]/\Kp r H (Z6 H7 l (.lst (zs++[z])))/\RE K C r sA bs (Z6 H7 l (.lst (zs++[z]))) p e'/\(Z6 H7 l (.lst (zs++[z]))) l=some (.lst zs')/\ls.length=es.length/\zs'.length+(e' - p)<=1000000/\Zi K (Z6 H7 l (.lst (zs++[z]))) (Y5 ls (toDs es)) zs'/\LbK st lab/\e' - p<=k/\R0=appM ls es (V2 bs (fun p e=>Yl bs n p e) st e' k lab p):=fun z H7 s7 i7=>by
          have hl7:=s7 _ _ hl6
          have d7:=d6.same s7
          obtain ⟨d8,kk⟩:=d7.put (ys:=zs++[z]) hl7 hd ((k4.trans k46).trans (Kp.same s7)) hnl
          have up7:Up K H7 (Z6 H7 l (.lst (zs++[z]))):=Bk.up (b:=l) (ys:=zs) (zs:=zs++[z]) ⟨fun x o n h=>by rw [Zh n]; exact h,Zq⟩ hl7
          have up4:=(d4.rd.up (k46.trans (Kp.same s7))).trans up7
          refine ⟨e' - q2,by omega,q2,k,ls++[lb],es++[it],zs++[z],lb,some v,rfl,rfl,kk,d8,Zq,by rw [List.length_append,List.length_append,hll]; rfl,by rw [List.length_append,List.length_singleton]; omega, ?_,lk',by omega,eR⟩
          rw [prtDs_snoc hll]
          exact areD_snoc (Zi.up up4 _ _ (Y8 _ _) ar) (Y1.up up7 _ _ (noLs_mem (Y8 [lb] [it]) List.mem_cons_self) i7)
         refine ⟨_,rfl,.inl ⟨rfl,_,Yc.of hl6⟩,_,rfl,rfl,_,rfl, ?_⟩
         rcases lk' with ⟨rfl,rfl⟩ | ⟨rfl,x',rfl⟩ | ⟨rfl,n'',rfl⟩
         ·exact Yv (by decide +kernel) ⟨_,rfl,l,_,_,rfl,rfl,hl6,zlt,fin v H6 (Zt.refl H6) i6⟩
         ·refine Z2 (by decide +kernel) ⟨_,rfl,_,rfl,(sz 2),fun p hp=>?_⟩
          have s7:=Zt.lay (o:=.tup [.str x',v]) hp
          exact ⟨l,_,_,rfl,rfl,s7 _ _ hl6,zlt,fin (.ref p) _ s7 (mkD2 (Yg.of Zq) rfl (Y1.up s7.up _ _ (Vq it) i6))⟩
         ·refine Z2 (by decide +kernel) ⟨_,rfl,_,rfl,(sz 2),fun p hp=>?_⟩
          have s7:=Zt.lay (o:=.tup [.int n'',v]) hp
          exact ⟨l,_,_,rfl,rfl,s7 _ _ hl6,zlt,fin (.ref p) _ s7 (mkD2 (Yg.of Zq) rfl (Y1.up s7.up _ _ (Vq it) i6))⟩
      ·refine Z2 (decide_eq_false (by omega)) ?_
       rw [rRoom_end pe] at eR
       have eR:R0=.ok (ls,es) p:=eR.trans (by show Rs.ok (ls++[],es++[]) p=_; rw [List.append_nil,List.append_nil])
       rw [eR] at q
       have ple:=d4.le
       refine ⟨_,rfl,r,dx4,_,rfl,h4,rfl,_,rfl,r,sA,bs,p,e',e,rfl,d4,by omega,hd.ln,fun H5 k5 d5=>?_⟩
       have hl5:H5 l=some (.lst zs):=k5 _ _ (d4.rd.ne hl4) hl4
       have ar5:=Zi.up (d4.rd.up k5) _ _ (Y8 ls es) ar
       refine ⟨_,rfl,_,rfl,l,zs,rfl,.inl ⟨Yc.of hl5,fun p1 hp1=>?_⟩⟩
       have s6:=Zt.lay (o:=.tup zs) hp1
       refine ⟨(sz 2),fun p2 hp2=>?_⟩
       have s7:=Zt.lay (o:=.tup [.str (srt st),.ref p1]) hp2
       have s67:=s6.trans s7
       exact q _ _ ((k4.trans k5).trans (Kp.same s67)) (d5.same s67) (mkD2 (Yg.of Zq) rfl ⟨p1,zs,rfl,Yg.of (s7 _ _ Zq),Zi.up s67.up _ _ (Y8 ls es) ar5⟩)
     ·rw [if_neg cv] at q
      exact (BB.kp q (k1.trans (Kp.same s2))).pass
  ·have n1:¬ 101 - (n:Int)<=100:=of_decide_eq_false z
   obtain rfl:n=0:=by omega
   exact (no rfl).pass
 ·refine Z2 (decide_eq_false b6) ⟨r,sA,bs,a+1,e,false,rfl,d1,by omega,fun z=>(nomatch z),fun _=>(no ?_).pass⟩
  cases n with
  | zero=>rfl
  | succ n =>
   unfold Yl
   simp only
   rw [if_pos ae,if_neg (by omega),if_neg (by omega),if_neg (by omega),if_neg (by omega)]
end
def BX (CB:Addr) (E:XK) (H:Hp) (n:Nat):Prop:=∀ (d:Addr) (H':Hp),Zt H H'->H' d=some (DHO d [("at",.int (n:Int))])->E (.ref CB) (some d) H'
def rBetween (bs:List Int) (p e:Nat):Rs IT:=match Yl bs 100 p e with
 | .no q=>.no q
 | .ok it q=>if q<e then .no q else .ok it q
def spBetween (K:W.Frag) (CB:Addr):Sp:=fun vs H Q E=>∃ (sA:Addr) (bs:List Int) (p e:Nat),vs=[.ref sA,.int (p:Int),.int (e:Int)]/\(Yc K H sA (bv bs)\/Yg K H sA (bv bs))/\Byt bs/\p<=e/\e<=bs.length /\
 (∀ it q,rBetween bs p e=.ok it q->∀ v H',Zt H H'->Y1 K H' (toD it) v->Q v H')/\(∀ q,rBetween bs p e=.no q->BX CB E H q)
def spUnpacked (K:W.Frag) (CB:Addr):Sp:=fun vs H Q E=>∃ (sA:Addr) (bs:List Int),vs=[.ref sA]/\(Yc K H sA (bv bs)\/Yg K H sA (bv bs))/\Byt bs /\
 (∀ it q,rFile bs=.ok it q->∀ v H',Zt H H'->Y1 K H' (toD it) v->Q v H')/\(∀ q,rFile bs=.no q->BX CB E H q)
theorem BX.pass {CB:Addr} {E:XK} {H:Hp} {n:Nat} {σ:L2.St} (b:BX CB E H n):BX CB (xkW (fun _ H' _ C od=>E (.ref C) od H') σ) H n:=fun d H' k h a C ec _=>by
 cases ec
 exact b d H' k h
section
variable {P:Program} {w:World} {K:W.Frag} {mg:Str->Option Value} {base:Heap} {f:Addr} {fd:FuncData} {C CB fi:Addr} {fdi:FuncData}
theorem ok_between (F:Uf K "unpacked_between" "unpacked_between" Uq f fd) (co:RdOk K C) (cb:XCls K CB) (mk_BadByte:XMk K CB fi) (f_BadByte:Yj P w K mg base CX0 1 fi fdi ["self","at"] (spXInit CB)) (x_BadByte:mg "BadByte" = some (.ref CB)) (bi_BadByte:Vc K fdi ["self","at"] [])
  (g_Reader:CFn P w K mg base 1 C "Reader" ["self","source","at","end"] (spInit K C)) (g_next_item:FnX P w K mg base 108 "next_item" ["reader","deep"] (spNItem K C CB 100)) :
  Yj P w K mg base (CX1 P w) 109 f fd ["file","begin","end"] (spBetween K CB):=by
 refine F.okX V3 (fun vs H Q E h=>?_) (fun cdv A outer s H vs Q E hr h=>?_)
 ·obtain ⟨sA,bs,p,e,rfl,_⟩:=h
  rfl
 obtain ⟨sA,bs,p,e,rfl,hs,hb,pe,el,q1,q2⟩:=h
 refine ⟨_,(@Zj _ _ _ _ _ (@Zk _ 3 _ _ _ _ _ V3.nd rfl (by trivial) (@pe_makeF _ _ _ _ _ _ _ _ _ _ _ g_Reader hr.m rfl (Zf (pv 0) (Zf (pv 1) (Zf (pv 2) Zx rfl) rfl) rfl) (by decide) rfl rfl) rfl (by trivial)) (@Zj _ _ _ _ _ (@Zk _ 4 _ _ _ _ _ V3.nd rfl (by trivial) (@Vt _ _ _ _ _ _ _ _ _ _ _ g_next_item Y3 hr.m rfl (Zf (pv 3) (Zf Zz Zx rfl) rfl) (by decide) rfl rfl) rfl (by trivial)) (@Zj _ _ _ _ _ (@Ze _ _ _ _ _ _ _ _ (@Zm _ _ _ _ _ _ _ _ op_lt (@Um _ _ _ _ _ (pv 3) rfl) (pv 2) (Zd _)) (@Zv _ _ _ (@ps_raiseX _ _ _ _ _ Y3 (@pe_mkX _ _ _ _ _ _ _ _ _ _ _ _ _ _ _ mk_BadByte f_BadByte hr.m rfl x_BadByte bi_BadByte pass0 (Zf (@Um _ _ _ _ _ (pv 3) rfl) Zx rfl) (by decide) rfl rfl) rfl)) Zl) (@Zv _ _ _ (@Zc _ _ _ _ (pv 4)))))), ?_⟩
 refine ⟨_,rfl,_,rfl,_,rfl,fun r dx hr0 hdx ne=>?_⟩
 refine ⟨r,dx,_,_,_,rfl,Zq,rfl, ?_⟩
 rw [upd_upd,upd_upd,upd_upd]
 have s1:Zt H (Z6 (Z6 H dx (.own r)) r (.ins C dx (fsR (.ref sA) p e))):=fun y o h'=>by
  rw [Zh (Z5 h' hr0),Zh (Z5 h' hdx)]
  exact h'
 have hs1:Yc K (Z6 (Z6 H dx (.own r)) r (.ins C dx (fsR (.ref sA) p e))) sA (bv bs)\/Yg K (Z6 (Z6 H dx (.own r)) r (.ins C dx (fsR (.ref sA) p e))) sA (bv bs):=by
  rcases hs with hs | hs
  ·exact .inl (s1.seq hs)
  ·exact .inr (s1.up _ _ hs)
 have d1:RE K C r sA bs (Z6 (Z6 H dx (.own r)) r (.ins C dx (fsR (.ref sA) p e))) p e:=⟨⟨dx,Zq,hs1⟩,pe,el,hb⟩
 have bb:∀ q,rBetween bs p e=.no q->BB CB E r (Z6 (Z6 H dx (.own r)) r (.ins C dx (fsR (.ref sA) p e))) q:=fun q hq d H' k h=>q2 q hq d H' (fun y o h'=>k y o (Z5 h' hr0) (s1 y o h')) h
 refine ⟨_,rfl,by omega,r,sA,bs,p,e,rfl,d1, ?_⟩
 unfold rBetween at q1 bb
 cases er:Yl bs 100 p e with
 | no q =>
  rw [er] at bb
  exact BB.pass (σ:=[]) (bb q rfl)
 | ok it q =>
  rw [er] at q1 bb
  simp only at q1 bb
  intro v H2 k2 d2 i2
  obtain ⟨dx2,h2,_⟩:=d2.rd.ex
  have s2:Zt H H2:=fun y o h'=>k2 y o (Z5 h' hr0) (s1 y o h')
  refine ⟨_,rfl,r,C,dx2,_,_,rfl,h2,co.cl,co.at',rfl,_,rfl,_,_,rfl,rfl,_,rfl, ?_⟩
  by_cases qe:q<e
  ·rw [if_pos qe] at bb
   exact Yv (decide_eq_true (by omega)) ⟨_,rfl,r,C,dx2,_,_,rfl,h2,co.cl,co.at',rfl,bb_raise cb ((bb q rfl).kp k2) rfl⟩
  ·rw [if_neg qe] at q1
   exact Z2 (decide_eq_false (by omega)) ⟨_,rfl,q1 it q rfl v H2 s2 i2⟩
theorem ok_unpacked (F:Uf K "unpacked" "unpacked" s_unpacked f fd) (m:Bn mg) (g_unpacked_between:FnX P w K mg base 109 "unpacked_between" ["file","begin","end"] (spBetween K CB)) :
  Yj P w K mg base (CX1 P w) 110 f fd ["file"] (spUnpacked K CB):=by
 refine F.okX sc_unpacked (fun vs H Q E h=>?_) (fun cdv A outer s H vs Q E hr h=>?_)
 ·obtain ⟨sA,bs,rfl,_⟩:=h
  rfl
 obtain ⟨sA,bs,rfl,hs,hb,q1,q2⟩:=h
 refine ⟨_,(@Zv _ _ _ (@Zc _ _ _ _ (@Vt _ _ _ _ _ _ _ _ _ _ _ g_unpacked_between Y3 hr.m rfl (Zf (pv 0) (Zf Zz (Zf (@Z9 _ _ _ _ _ _ _ _ _ Yy rfl m.len b_len (Zf (pv 0) Zx rfl) (by decide) (by decide) rfl rfl) Zx rfl) rfl) rfl) (by decide) rfl rfl))), ?_⟩
 refine ⟨_,rfl,_,rfl,sA,_,rfl,hs, ?_⟩
 rw [Zu]
 exact ⟨sA,bs,0,bs.length,rfl,hs,hb,Nat.zero_le _,Nat.le_refl _,q1,fun q hq=>BX.pass (σ:=[]) (q2 q hq)⟩
end
section
variable {bs:List Int}
theorem drop_at {p:Nat} (h:p<bs.length):bs.drop p=bs.getD p 0::bs.drop (p+1):=by
 rw [List.drop_eq_getElem_cons h,List.getD_eq_getElem?_getD,List.getElem?_eq_getElem h]
 rfl
theorem rLong_lf (B:Byt bs) {most:Int}:∀ {k:Nat} {sc n:Int} {f:Bool} {p:Nat} {v:Int} {q:Nat},1<=sc->p+k<=bs.length->rLong bs most k sc n f p=.ok v q ->
  ∃ r:Int,v=n+r * sc/\0<=r/\(f=false->1<=r)/\∀ i,r<128 ^ (i+1)->bs.drop p=Lf i r++bs.drop q
 | 0,_,_,_,_,_,_,_,_,h=>by cases h
 | k+1,sc,n,f,p,v,q,h1,h3,h=>by
  obtain ⟨_,b0,b1⟩:=B.at (p:=p) (by omega)
  have dr:=drop_at (bs:=bs) (p:=p) (by omega)
  unfold rLong at h
  simp only at h
  generalize bs.getD p 0=c at h b0 b1 dr
  split at h
  ·cases h
  ·rename_i nc
   split at h
   ·rename_i c1
    cases h
    have e:c % 128=c:=by omega
    refine ⟨c,by rw [e],b0,fun hf=>?_,fun i _=>?_⟩
    ·have:¬ c=0:=fun z=>nc (.inr ⟨z,hf⟩)
     omega
    ·rw [Lf_small i c1,dr]; rfl
   ·rename_i c1
    obtain ⟨r,ev,r0,r1,hr⟩:=rLong_lf B (by omega) (by omega) h
    have r1:=r1 rfl
    refine ⟨c % 128+128 * r, ?_,by omega,fun _=>by omega,fun i hi=>?_⟩
    ·rw [ev,Int.add_mul,Int.mul_comm sc 128, <-Int.mul_assoc,Int.mul_comm r 128]
     omega
    ·obtain ⟨j,rfl⟩:=more (by omega) hi
     rw [Lf_big j (by omega),dr,hr j (by have:=div_lt hi; rw [show (c % 128+128 * r) / 128=r by omega] at this; exact this)]
     rw [show (c % 128+128 * r) / 128=r by omega,show (c % 128+128 * r) % 128+128=c by omega]
     rfl
theorem rdLong_lg (B:Byt bs) {most:Int} {p e q:Nat} {v:Int} (he:e<=bs.length) (hm:most<=2000000000000000000) (h:Z7 bs most p e=.ok v q):bs.drop p=Lg v++bs.drop q/\0<=v/\v<=most:=by
 obtain ⟨h1,h2,h3⟩:=Z4 h
 obtain ⟨r,ev,r0,_,hr⟩:=rLong_lf B (by omega) (by omega) (show rLong bs most (e - p) 1 0 true p=_ from h)
 have:v=r:=by omega
 subst this
 exact ⟨hr 19 (lt20 (by omega)),r0,h3⟩
theorem rSig_at (B:Byt bs) {g:Int->Bool} {e:Nat} (he:e<=bs.length):∀ {k p:Nat} {xs:List Nat} {q:Nat},Vg bs g e k p=.ok xs q->bs.drop p=(xs.map fun c:Nat=>(c:Int))++bs.drop q/\xs.length=k/\q=p+k/\(p<=e->q<=e)/\∀ c∈xs,g ((c:Nat):Int)=true
 | 0,p,xs,q,h=>by cases h; exact ⟨rfl,rfl,rfl,fun h=>h,fun _ m=>(List.not_mem_nil m).elim⟩
 | k+1,p,xs,q,h=>by
  by_cases c:p<e/\g (bs.getD p 0)=true
  ·rw [rSig_succ c] at h
   cases e':Vg bs g e k (p+1) with
   | no q'=>rw [e'] at h; cases h
   | ok ys q' =>
    rw [e'] at h
    cases h
    obtain ⟨i1,i2,i3,i4,i5⟩:=rSig_at B he e'
    obtain ⟨_,b0,_⟩:=B.at (p:=p) (by omega)
    have tn:((bs.getD p 0).toNat:Int)=bs.getD p 0:=by omega
    refine ⟨?_,by simp [i2],by omega,fun _=>i4 (by omega),fun x m=>?_⟩
    ·rw [drop_at (by omega),i1]
     show _=(((bs.getD p 0).toNat:Nat):Int)::((ys.map fun c:Nat=>(c:Int))++_)
     rw [tn]
    ·rcases List.mem_cons.mp m with rfl | m
     ·rw [tn]; exact c.2
     ·exact i5 x m
  ·rw [rSig_bad c] at h
   cases h
theorem codes_sOf (xs:List Nat):codes (sOf xs)=xs.map fun c:Nat=>(c:Int):=by unfold codes; rw [Uz]
theorem rText_at (B:Byt bs) {p e q:Nat} {x:Str} (he:e<=bs.length) (h:rText bs p e=.ok x q):bs.drop p=sgB x++bs.drop q/\textOk x/\q<=e:=by
 unfold rText at h
 cases er:Z7 bs 200 p e with
 | no q'=>rw [er] at h; cases h
 | ok v q' =>
  rw [er] at h
  obtain ⟨p1,p2,p3⟩:=Z4 er
  obtain ⟨d1,v0,v1⟩:=rdLong_lg B he (by decide) er
  have h:(match Vg bs Ug e v.toNat q' with | .no q'=>Rs.no q' | .ok xs q'=>.ok (sOf xs) q')=Rs.ok x q:=h
  cases es:Vg bs Ug e v.toNat q' with
  | no q2=>rw [es] at h; cases h
  | ok xs q2 =>
   rw [es] at h
   cases h
   obtain ⟨i1,i2,i3,i4,i5⟩:=rSig_at B he es
   have lx:((sOf xs).length:Int)=v:=by rw [sOf_len,i2]; omega
   refine ⟨?_,⟨by rw [sOf_len]; omega,fun c m=>?_⟩,i4 p2⟩
   ·unfold sgB
    rw [d1,i1,lx,codes_sOf,List.append_assoc]
   ·rw [Uz] at m
    have:=of_decide_eq_true (i5 c m)
    exact ⟨by omega,by omega,by omega⟩
theorem rNum_at (B:Byt bs) {m:Int} {p e q:Nat} {v:Int} (he:e<=bs.length) (h:rNum bs m p e=.ok v q):bs.drop p=Lg v++bs.drop q/\m<v/\v<=999/\q<=e:=by
 unfold rNum at h
 cases er:Z7 bs 999 p e with
 | no q'=>rw [er] at h; cases h
 | ok v' q' =>
  rw [er] at h
  have h:(if m<v' then Rs.ok v' q' else .no (q' - 1))=Rs.ok v q:=h
  obtain ⟨p1,p2,p3⟩:=Z4 er
  obtain ⟨d1,v0,v1⟩:=rdLong_lg B he (by decide) er
  split at h
  ·cases h; exact ⟨d1,by assumption,v1,p2⟩
  ·cases h
theorem rKey_at (B:Byt bs) {m:Str} {p e q:Nat} {x:Str} (he:e<=bs.length) (h:rKey bs m p e=.ok x q):bs.drop p=sgB x++bs.drop q/\nameOk x/\ltS m x/\q<=e:=by
 unfold rKey at h
 cases er:Z7 bs 8 p e with
 | no q'=>rw [er] at h; cases h
 | ok v q' =>
  rw [er] at h
  have h:(if 0<v then (match Vg bs gLow e v.toNat q' with | .no q'=>Rs.no q' | .ok xs q'=>if m.cps.toList<xs then .ok (sOf xs) q' else .no (q' - 1)) else .no (q' - 1))=Rs.ok x q:=h
  obtain ⟨p1,p2,p3⟩:=Z4 er
  obtain ⟨d1,v0,v1⟩:=rdLong_lg B he (by decide) er
  split at h
  ·rename_i vp
   cases es:Vg bs gLow e v.toNat q' with
   | no q2=>rw [es] at h; cases h
   | ok xs q2 =>
    rw [es] at h
    simp only at h
    obtain ⟨i1,i2,i3,i4,i5⟩:=rSig_at B he es
    have lx:((sOf xs).length:Int)=v:=by rw [sOf_len,i2]; omega
    split at h
    ·rename_i lt
     cases h
     refine ⟨?_,⟨by rw [sOf_len]; omega,by rw [sOf_len]; omega,fun c mc=>?_⟩, ?_,i4 p2⟩
     ·unfold sgB
      rw [d1,i1,lx,codes_sOf,List.append_assoc]
     ·rw [Uz] at mc
      have:=of_decide_eq_true (i5 c mc)
      exact ⟨by omega,by omega⟩
     ·unfold ltS; rw [Uz]; exact lt
    ·cases h
  ·cases h
theorem fold_unf {v:Int} (h:0<=v):fold (unf v)=v:=by
 unfold unf fold
 split
 ·rw [if_pos (by omega)]; omega
 ·rw [if_neg (by omega)]; omega
end
def LbN (l:Lb):Prop:=∀ y,l=.num y->0<=y
def GdB:Nat->Lb->List Lb->Prop
 | 0,_,ls=>∀ x∈ls,x=.no
 | 1,l,ls=>∃ ks:List Str,ls=ks.map Lb.key/\(∀ x∈ks,nameOk x)/\adj ltS ks/\∀ y,l=.key y->∀ k,ks[0]?=some k->ltS y k
 | _,l,ls=>∃ ks:List Int,ls=ks.map Lb.num/\(∀ n∈ks,1<=n/\n<=999)/\ks.Pairwise (· < ·)/\∀ y,l=.num y->∀ k∈ks,y<k
theorem GdB.gd {s:Nat} {l:Lb} {ls:List Lb} (h:GdB s l ls):GdL s ls:=by
 match s,h with
 | 0,h=>exact h
 | 1,⟨ks,e,a,b,_⟩=>exact ⟨ks,e,a,b⟩
 | s+2,⟨ks,e,a,b,_⟩=>exact ⟨ks,e,a,b⟩
section
variable {bs:List Int}
theorem rLab_at (B:Byt bs) {s:Nat} {l l':Lb} {p e q:Nat} (he:e<=bs.length) (pe:p<=e) (k:LbK s l) (ln:LbN l) (h:rLab bs s l p e=.ok l' q) :
  bs.drop p=lbB l'++bs.drop q/\LbK s l'/\LbN l'/\p<=q/\q<=e/\∀ ls,GdB s l' ls->GdB s l (l'::ls):=by
 rcases k with ⟨rfl,rfl⟩ | ⟨rfl,x,rfl⟩ | ⟨rfl,n,rfl⟩
 ·cases h
  refine ⟨rfl,.inl ⟨rfl,rfl⟩,fun y z=>(by cases z),Nat.le_refl _,pe,fun ls g x m=>?_⟩
  rcases List.mem_cons.mp m with rfl | m
  ·rfl
  ·exact g x m
 ·have h:(match rKey bs x p e with | .ok x q=>Rs.ok (.key x) q | .no q=>.no q)=Rs.ok l' q:=h
  cases er:rKey bs x p e with
  | no q'=>rw [er] at h; cases h
  | ok y q' =>
   rw [er] at h
   cases h
   obtain ⟨d1,nk,lt,qe⟩:=rKey_at B he er
   refine ⟨d1,.inr (.inl ⟨rfl,_,rfl⟩),fun y z=>(by cases z),Nat.le_of_lt (rKey_pos er),qe,fun ls g=>?_⟩
   obtain ⟨ks,rfl,g1,g2,g3⟩:=g
   refine ⟨y::ks,rfl,fun z m=>?_, ?_,fun z ez k hk=>?_⟩
   ·rcases List.mem_cons.mp m with rfl | m
    ·exact nk
    ·exact g1 z m
   ·cases ks with
    | nil=>trivial
    | cons k ks=>exact ⟨g3 y rfl k rfl,g2⟩
   ·cases ez
    simp at hk
    subst hk
    exact lt
 ·have h:(match rNum bs n p e with | .ok n q=>Rs.ok (.num n) q | .no q=>.no q)=Rs.ok l' q:=h
  cases er:rNum bs n p e with
  | no q'=>rw [er] at h; cases h
  | ok y q' =>
   rw [er] at h
   cases h
   obtain ⟨d1,lt,le,qe⟩:=rNum_at B he er
   have n0:=ln n rfl
   refine ⟨d1,.inr (.inr ⟨rfl,_,rfl⟩),fun z ez=>(by cases ez; omega),Nat.le_of_lt (rNum_pos er),qe,fun ls g=>?_⟩
   obtain ⟨ks,rfl,g1,g2,g3⟩:=g
   refine ⟨y::ks,rfl,fun z m=>?_,List.pairwise_cons.mpr ⟨fun z m=>g3 y rfl z m,g2⟩,fun z ez k hk=>?_⟩
   ·rcases List.mem_cons.mp m with rfl | m
    ·exact ⟨by omega,le⟩
    ·exact g1 z m
   ·cases ez
    rcases List.mem_cons.mp hk with rfl | m
    ·exact lt
    ·have:=g3 y rfl k m; omega
theorem rRoom_at (B:Byt bs) {f:Nat->Nat->Rs IT} {s e d:Nat} (he:e<=bs.length) (hf:∀ p q it,p<=e->f p e=.ok it q->bs.drop p=Ub it++bs.drop q/\GdI it/\dpI it<=d/\p<q/\q<=e) :
  ∀ {k p:Nat} {l:Lb} {ls:List Lb} {es:List IT} {r:Nat},LbK s l->LbN l->p<=e->e - p<=k->V2 bs f s e k l p=.ok (ls,es) r ->
   bs.drop p=Yt ls es++bs.drop r/\r=e/\ls.length=es.length/\GdB s l ls/\GdIs es/\dpIs es<=d:=by
 have nil:∀ l,LbK s l->GdB s l []:=fun l lk=>by
  rcases lk with ⟨rfl,rfl⟩ | ⟨rfl,x,rfl⟩ | ⟨rfl,n,rfl⟩
  ·exact fun _ m=>(List.not_mem_nil m).elim
  ·exact ⟨[],rfl,fun _ m=>(List.not_mem_nil m).elim,trivial,fun _ _ _ h=>by simp at h⟩
  ·exact ⟨[],rfl,fun _ m=>(List.not_mem_nil m).elim,List.Pairwise.nil,fun _ _ _ m=>(List.not_mem_nil m).elim⟩
 intro k
 induction k with
 | zero =>
  intro p l ls es r lk ln pe kf h
  cases h
  exact ⟨rfl,by omega,rfl,nil l lk,trivial,Nat.zero_le _⟩
 | succ k ih =>
  intro p l ls es r lk ln pe kf h
  by_cases c:p<e
  ·cases e1:rLab bs s l p e with
   | no q1=>rw [rRoom_no1 c e1] at h; cases h
   | ok l' q1 =>
    obtain ⟨d1,lk',ln',pq1,q1e,gb⟩:=rLab_at B he pe lk ln e1
    cases e2:f q1 e with
    | no q2=>rw [rRoom_no2 c e1 e2] at h; cases h
    | ok it q2 =>
     obtain ⟨d2,gi,dp,pq2,q2e⟩:=hf q1 q2 it q1e e2
     rw [rRoom_step c e1 e2] at h
     cases e3:V2 bs f s e k l' q2 with
     | no q3=>rw [e3] at h; cases h
     | ok y q3 =>
      obtain ⟨ls',es'⟩:=y
      rw [e3] at h
      cases h
      obtain ⟨d3,re,ll,g3,gs,ds⟩:=ih lk' ln' q2e (by omega) e3
      refine ⟨?_,re,by simp [ll],gb ls' g3,⟨gi,gs⟩, ?_⟩
      ·show _=Yt (l'::ls') (it::es')++_
       simp only [Yt]
       rw [d1,d2,d3]
       simp only [List.append_assoc]
      ·show max (dpI it) (dpIs es')<=d
       omega
  ·rw [rRoom_end c] at h
   cases h
   exact ⟨rfl,by omega,rfl,nil l lk,trivial,Nat.zero_le _⟩
theorem lb0_n (s:Nat):LbN (lb0 s):=fun y h=>by
 unfold lb0 at h
 split at h
 ·cases h
 ·cases h; omega
 ·cases h
theorem rItem_at (B:Byt bs):∀ {n p e:Nat} {it:IT} {q:Nat},e<=bs.length->Yl bs n p e=.ok it q->bs.drop p=Ub it++bs.drop q/\GdI it/\dpI it<=n/\q<=e
 | 0,_,_,_,_,_,h=>by cases h
 | n+1,p,e,it,q,he,h=>by
  unfold Yl at h
  simp only at h
  split at h
  ·rename_i pe
   have dr:=drop_at (bs:=bs) (p:=p) (by omega)
   generalize bs.getD p 0=b at h dr
   split at h
   ·rename_i hb
    cases er:Z7 bs 2000000000000000000 (p+1) e with
    | no q'=>rw [er] at h; cases h
    | ok v q' =>
     rw [er] at h
     cases h
     obtain ⟨d1,v0,v1⟩:=rdLong_lg B he (by decide) er
     obtain ⟨p1,p2,p3⟩:=Z4 er
     refine ⟨?_, ?_,by simp only [dpI]; omega,p2⟩
     ·simp only [Ub]
      rw [dr,d1,fold_unf v0,hb]
      rfl
     ·show _/\_
      unfold unf
      split <;> omega
   ·split at h
    ·rename_i hb
     cases er:rText bs (p+1) e with
     | no q'=>rw [er] at h; cases h
     | ok x q' =>
      rw [er] at h
      cases h
      obtain ⟨d1,tx,qe⟩:=rText_at B he er
      refine ⟨?_,tx,by simp only [dpI]; omega,qe⟩
      simp only [Ub]
      rw [dr,d1,hb]
      rfl
    ·split at h
     ·rename_i hb
      cases er:rNum bs 0 (p+1) e with
      | no q'=>rw [er] at h; cases h
      | ok v q' =>
       rw [er] at h
       simp only at h
       obtain ⟨d1,v0,v1,q1e⟩:=rNum_at B he er
       cases ei:Yl bs n q' e with
       | no q2=>rw [ei] at h; cases h
       | ok it' q2 =>
        rw [ei] at h
        cases h
        obtain ⟨d2,gi,dp,q2e⟩:=rItem_at B he ei
        refine ⟨?_,⟨by omega,v1,gi⟩,by simp only [dpI]; omega,q2e⟩
        simp only [Ub]
        rw [dr,d1,d2,hb]
        simp only [List.cons_append,List.append_assoc]
     ·split at h
      ·rename_i hh
       cases er:Z7 bs 1000000 (p+1) e with
       | no q'=>rw [er] at h; cases h
       | ok v q' =>
        rw [er] at h
        simp only at h
        obtain ⟨d1,v0,v1⟩:=rdLong_lg B he (by decide) er
        obtain ⟨p1,p2,p3⟩:=Z4 er
        split at h
        ·rename_i cv
         cases ei:V2 bs (fun p e=>Yl bs n p e) (b - 2).toNat (q'+v.toNat) v.toNat (lb0 (b - 2).toNat) q' with
         | no q2=>rw [ei] at h; cases h
         | ok x q2 =>
          rw [ei] at h
          obtain ⟨ls,es⟩:=x
          cases h
          obtain ⟨d2,re,ll,gb,gs,ds⟩:=rRoom_at B (d:=n) (by omega) (fun p q it pe h=>by
           obtain ⟨a1,a2,a3,a4⟩:=rItem_at B (by omega) h
           exact ⟨a1,a2,a3,rItem_pos h,a4⟩) (lb0_k (by omega)) (lb0_n _) (by omega) (by omega) ei
          have bl:((Yt ls es).length:Int)=v:=by
           have:=congrArg List.length d2
           rw [List.length_append,List.length_drop,List.length_drop] at this
           omega
          refine ⟨?_,⟨by omega,ll,gb.gd,gs⟩,by simp only [dpI]; omega,by omega⟩
          simp only [Ub]
          rw [dr,d1,d2,bl,show (((b - 2).toNat:Nat):Int)+2=b by omega]
          simp only [List.cons_append,List.append_assoc]
        ·cases h
      ·cases h
  ·cases h
theorem rFile_at (B:Byt bs) {it:IT} {q:Nat} (h:rFile bs=.ok it q):bs=Ub it/\GdI it/\dpI it<=100/\q=bs.length:=by
 unfold rFile at h
 cases er:Yl bs 100 0 bs.length with
 | no q'=>rw [er] at h; cases h
 | ok it' q' =>
  rw [er] at h
  have h:(if q'<bs.length then Rs.no q' else .ok it' q')=Rs.ok it q:=h
  obtain ⟨d,g,dp,qe⟩:=rItem_at B (Nat.le_refl _) er
  split at h
  ·cases h
  ·cases h
   have e:q=bs.length:=by omega
   rw [e,List.drop_length,List.append_nil] at d
   exact ⟨d,g,dp,e⟩
end
abbrev s_law_number_at:Stmt:=top 53
abbrev N_law_number_at:List Str:=["_law_file","_law_place","_law_end","_law_most","_law_value","_law_scale","_law_at"]
theorem Y6:Zr N_law_number_at ["_law_file","_law_place","_law_end","_law_most"] (Zb s_law_number_at):=by trivial
abbrev Vo:Stmt:=top 54
abbrev N_law_signs_at:List Str:=["_law_file","_law_place","_law_end","_law_many","_law_signs","_law_text_here","_law_k","_law_some"]
theorem Vd:Zr N_law_signs_at ["_law_file","_law_place","_law_end","_law_many","_law_signs"] (Zb Vo):=by trivial
abbrev s_law_key_at:Stmt:=top 55
abbrev N_law_key_at:List Str:=["_law_file","_law_place","_law_end","_law_head","_law_value","_law_at"]
theorem sc_law_key_at:Zr N_law_key_at ["_law_file","_law_place","_law_end","_law_head"] (Zb s_law_key_at):=by trivial
abbrev s_law_room_at:Stmt:=top 56
abbrev N_law_room_at:List Str:=["_law_file","_law_place","_law_end","_law_head","_law_deep","_law_parts","_law_last","_law_key_here","_law_part"]
theorem Yr:Zr N_law_room_at ["_law_file","_law_place","_law_end","_law_head","_law_deep"] (Zb s_law_room_at):=by trivial
abbrev s_law_read_at:Stmt:=top 57
abbrev N_law_read_at:List Str:=["_law_file","_law_place","_law_end","_law_deep","_law_head","_law_value","_law_at","_law_signs","_law_text_here","_law_part"]
theorem Yb:Zr N_law_read_at ["_law_file","_law_place","_law_end","_law_deep"] (Zb s_law_read_at):=by trivial
abbrev s_law_read:Stmt:=top 58
abbrev N_law_read:List Str:=["_law_file","_law_item_here","_law_place"]
theorem sc_law_read:Zr N_law_read ["_law_file"] (Zb s_law_read):=by trivial
def TR {α:Type} (K:W.Frag) (val:α->V->Hp->Prop) (H:Hp) (v:V):Rs α->Prop
 | .ok y q=>∃ p x,v=.ref p/\Yg K H p [x,.int (q:Int)]/\val y x H
 | .no q=>∃ p,v=.ref p/\Yg K H p [.non,.int (q:Int)]
structure FB (K:W.Frag) (H:Hp) (a:Addr) (bs:List Int):Prop where
 sq:Yc K H a (bv bs)\/Yg K H a (bv bs)
 by':Byt bs
 ln:bs.length<=1000000
theorem FB.same {K:W.Frag} {H H':Hp} {a:Addr} {bs:List Int} (f:FB K H a bs) (s:Zt H H'):FB K H' a bs:=⟨by
 rcases f.sq with h | h
 ·exact .inl (s.seq h)
 ·exact .inr (s.up _ _ h),f.by',f.ln⟩
theorem FB.ix {K:W.Frag} {H:Hp} {a:Addr} {bs:List Int} {Q:VK} {i:Int} {p:Nat} (f:FB K H a bs) (hp:p<bs.length) (ei:i=(p:Int)) (q:Q (.int (bs.getD p 0)) H):rIx K (.ref a) (.int i) H Q:=by
 subst ei
 have at1:atI (bv bs) (p:Int)=some (.int (bs.getD p 0)):=L2.Z1 (by rw [bv,List.getElem?_map,(f.by'.at hp).1]; rfl)
 rcases f.sq with h | h
 ·exact .inl ⟨a,_,_,_,rfl,rfl,h,at1,q⟩
 ·exact .inr (.inl ⟨a,_,_,_,rfl,rfl,h,at1,q⟩)
def spNumAt (K:W.Frag):Sp:=fun vs H Q _=>∃ (a:Addr) (bs:List Int) (p e:Nat) (m:Int),vs=[.ref a,.int (p:Int),.int (e:Int),.int m]/\FB K H a bs/\p<=e/\e<=bs.length/\0<=m/\∀ v H',Zt H H'->TR K vI H' v (Z7 bs m p e)->Q v H'
section
variable {P:Program} {w:World} {K:W.Frag} {mg:Str->Option Value} {base:Heap} {f:Addr} {fd:FuncData}
theorem ok_number_at (F:Uf K "_law_number_at" "_law_number_at" s_law_number_at f fd) (m:Bn mg):Yj P w K mg base CX0 1 f fd ["_law_file","_law_place","_law_end","_law_most"] (spNumAt K):=by
 refine F.ok Y6 (fun vs H Q E h=>?_) (fun cdv A outer s H vs Q E hr h=>?_)
 ·obtain ⟨a,bs,p,e,m,rfl,_⟩:=h
  rfl
 obtain ⟨a,bs,p,e,mo,rfl,hf,pe,el,m0,q⟩:=h
 refine ⟨_,(@Zj _ _ _ _ _ (@Zk _ 4 _ _ _ _ _ Y6.nd rfl (by trivial) Zz rfl (by trivial)) (@Zj _ _ _ _ _ (@Zk _ 5 _ _ _ _ _ Y6.nd rfl (by trivial) Zz rfl (by trivial)) (@Zj _ _ _ _ _ (@ps_for _ _ _ _ _ _ _ _ PassesOwn.never rfl (@pi_range2 _ _ _ _ _ _ _ rfl m.range (Zf (pv 1) (Zf (pv 2) Zx rfl) rfl) (by trivial) (by trivial)) (@Zo _ 6 _ _ Y6.nd rfl (by trivial) (by trivial)) (@Zj _ _ _ _ _ (@Zk _ 4 _ _ _ _ _ Y6.nd rfl (by trivial) (@Zg _ _ _ _ _ _ _ _ Yx (pv 4) (@Zg _ _ _ _ _ _ _ _ Vl (@Zg _ _ _ _ _ _ _ _ Vi (@Za _ _ _ _ _ _ _ ix_seq (pv 0) (pv 6) (fun _ _=>rfl)) Zz) (pv 5))) rfl (by trivial)) (@Zj _ _ _ _ _ (@Zk _ 5 _ _ _ _ _ Y6.nd rfl (by trivial) (@Zg _ _ _ _ _ _ _ _ Vl (pv 5) Zz) rfl (by trivial)) (@Zj _ _ _ _ _ (@Ze _ _ _ _ _ _ _ _ (@PW.pt _ _ _ (@pw_or _ _ _ _ _ _ _ (@Zm _ _ _ _ _ _ _ _ op_gt (pv 4) (pv 3) (Zd _)) (@pw_or1 _ _ _ _ (@PW.pt _ _ _ (@pw_and _ _ _ _ _ _ _ (@Zm _ _ _ _ _ _ _ _ Ym (@Za _ _ _ _ _ _ _ ix_seq (pv 0) (pv 6) (fun _ _=>rfl)) Zz (Zd _)) (@pw_and1 _ _ _ _ (@Zm _ _ _ _ _ _ _ _ op_gt (pv 6) (pv 1) (Zd _)))))))) (@Zv _ _ _ (@Zc _ _ _ _ (@Zn _ _ _ _ _ (Zf Ys (Zf (pv 6) Zx rfl) rfl)))) Zl) (@Zv _ _ _ (@Ze _ _ _ _ _ _ _ _ (@Zm _ _ _ _ _ _ _ _ op_lt (@Za _ _ _ _ _ _ _ ix_seq (pv 0) (pv 6) (fun _ _=>rfl)) Zz (Zd _)) (@Zv _ _ _ (@Zc _ _ _ _ (@Zn _ _ _ _ _ (Zf (pv 4) (Zf (@Zg _ _ _ _ _ _ _ _ Yx (pv 6) Zz) Zx rfl) rfl)))) Zl))))) (by trivial)) (@Zv _ _ _ (@Zc _ _ _ _ (@Zn _ _ _ _ _ (Zf Ys (Zf (pv 2) Zx rfl) rfl))))))), ?_⟩
 have hz:=hf.ln
 have nope:∀ (H2:Hp) (o:Nat) (i:Int),Zt H H2->i=(o:Int)->Z7 bs mo p e=.no o->2<=sizeLine/\∀ t,H2 t=none->Q (.ref t) (Z6 H2 t (.tup [.non,.int i])):=fun H2 o i s2 ei eq=>⟨by decide,fun t ht=>q _ _ (s2.trans (Zt.lay ht)) (by rw [eq,ei]; exact ⟨t,rfl,Yg.of Zq⟩)⟩
 refine ⟨_,rfl,_,rfl,_,_,rfl,⟨by omega,by omega,by omega,by omega⟩,V1 (n:=((e:Int) - (p:Int)).toNat) (fun i σ H2=>∃ (va sc:Int) (o6:Option V),σ=[some (.ref a),some (.int (p:Int)),some (.int (e:Int)),some (.int mo),some (.int va),some (.int sc),o6]/\Zt H H2/\i<=e - p/\Z7 bs mo p e=rLong bs mo (e - p - i) sc va (decide (i=0)) (p+i)/\1<=sc/\0<=va)
  ⟨0,1,_,rfl,Zt.refl H,by omega,rfl,by omega,by omega⟩ ?_ ?_⟩
 ·rintro i σ H2 hi ⟨va,sc,o6,rfl,s2,ie,eq,sc1,va0⟩
  have hf2:=hf.same s2
  have hp:p+i<bs.length:=by omega
  have ei:(p:Int)+(i:Int)=((p+i:Nat):Int):=by omega
  obtain ⟨_,c0,c255⟩:=hf.by'.at hp
  rw [show e - p - i=(e - p - (i+1))+1 by omega] at eq
  unfold rLong at eq
  simp only at eq
  have nn:0<=bs.getD (p+i) 0 % 128 * sc:=Int.mul_nonneg (by omega) (by omega)
  refine ⟨_,rfl,_,rfl,_,rfl,hf2.ix hp ei ⟨_,_,rfl,rfl,(by show (0:Int)<128; decide),_,rfl,_,_,rfl,rfl,.inl ⟨by show _<bs.getD (p+i) 0 % 128; omega,by show bs.getD (p+i) 0 % 128<_; omega⟩,_,_,rfl,rfl, ?_⟩⟩
  refine ⟨_,rfl,_,_,rfl,rfl,.inr ⟨by decide,by decide⟩, ?_⟩
  refine ⟨_,rfl,_,rfl,_,_,rfl,rfl,_,rfl, ?_⟩
  by_cases gt:mo<va+bs.getD (p+i) 0 % 128 * sc
  ·rw [if_pos (.inl gt)] at eq
   refine Yv (decide_eq_true gt) (iteT ?_)
   exact ⟨_,rfl,nope H2 (p+i) _ s2 ei eq⟩
  ·refine Z2 (decide_eq_false gt) ⟨_,rfl,_,rfl,hf2.ix hp ei ⟨rfl,_,rfl, ?_⟩⟩
   rw [Yd]
   by_cases cz:bs.getD (p+i) 0=0
   case' pos =>
    refine Yv (by rw [cz]; rfl) ⟨_,rfl,_,rfl,_,_,rfl,rfl,_,rfl, ?_⟩
    by_cases i0:i=0
    case' neg =>
     rw [if_pos (.inr ⟨cz,decide_eq_false i0⟩)] at eq
     exact Yv (decide_eq_true (by omega)) ⟨_,rfl,nope H2 (p+i) _ s2 ei eq⟩
    case' pos =>
     have nz:¬ (bs.getD (p+i) 0=0/\decide (i=0)=false):=fun y=>by rw [i0] at y; cases y.2
     refine Z2 (decide_eq_false (by omega)) ?_
   case' neg =>
    have nz:¬ (bs.getD (p+i) 0=0/\decide (i=0)=false):=fun y=>cz y.1
    refine Z2 (beq_false_of_ne cz) (Z2 rfl ?_)
   all_goals
    rw [if_neg (by intro z; rcases z with z | z; exact gt z; exact nz z)] at eq
    refine ⟨_,rfl,_,rfl,hf2.ix hp ei ⟨_,_,rfl,rfl,_,rfl, ?_⟩⟩
    by_cases lt:bs.getD (p+i) 0<128
    ·rw [if_pos lt] at eq
     refine Yv (decide_eq_true lt) ⟨_,rfl,_,rfl,_,_,rfl,rfl,(sz 2),fun t ht=>q _ _ (s2.trans (Zt.lay ht)) ?_⟩
     rw [eq]
     exact ⟨t,_,rfl,Yg.of (by rw [Zq,ei]; rfl),rfl⟩
    ·rw [if_neg lt] at eq
     exact Z2 (decide_eq_false lt) ⟨_,_,_,rfl,s2,by omega,by rw [eq,show (decide (i+1=0))=false from rfl]; rfl,by omega,by omega⟩
 ·rintro σ H2 ⟨va,sc,o6,rfl,s2,ie,eq,sc1,va0⟩
  rw [show e - p - ((e:Int) - (p:Int)).toNat=0 by omega,show p+((e:Int) - (p:Int)).toNat=e by omega] at eq
  exact ⟨_,rfl,nope H2 e _ s2 rfl eq⟩
end
structure SgT (g:Int->Bool) (y:Str):Prop where
 ln:y.length<=1000
 mem:∀ c:Nat,c∈y.cps.toList ↔ g (c:Int)=true
def spSigAt (K:W.Frag):Sp:=fun vs H Q _=>∃ (a:Addr) (bs:List Int) (p e k:Nat) (y:Str) (g:Int->Bool),vs=[.ref a,.int (p:Int),.int (e:Int),.int (k:Int),.str y]/\FB K H a bs/\p<=e/\e<=bs.length/\k<=1000/\SgT g y /\
 ∀ v H',Zt H H'->TR K (fun xs v _=>v=.str (sOf xs)) H' v (Vg bs g e k p)->Q v H'
section
variable {P:Program} {w:World} {K:W.Frag} {mg:Str->Option Value} {base:Heap} {f:Addr} {fd:FuncData}
theorem ok_signs_at (F:Uf K "_law_signs_at" "_law_signs_at" Vo f fd) (m:Bn mg):Yj P w K mg base CX0 1 f fd ["_law_file","_law_place","_law_end","_law_many","_law_signs"] (spSigAt K):=by
 refine F.ok Vd (fun vs H Q E h=>?_) (fun cdv A outer s H vs Q E hr h=>?_)
 ·obtain ⟨a,bs,p,e,k,y,g,rfl,_⟩:=h
  rfl
 obtain ⟨a,bs,p,e,k,y,g,rfl,hf,pe,el,k1,sg,q⟩:=h
 refine ⟨_,(@Zj _ _ _ _ _ (@Zk _ 5 _ _ _ _ _ Vd.nd rfl (by trivial) Zp rfl (by trivial)) (@Zj _ _ _ _ _ (@ps_for _ _ _ _ _ _ _ _ PassesOwn.never rfl (@Yi _ _ _ _ _ _ rfl m.range (Zf (pv 3) Zx rfl) (by trivial)) (@Zo _ 6 _ _ Vd.nd rfl (by trivial) (by trivial)) (@Zj _ _ _ _ _ (@ps_setCompI _ 7 N_law_signs_at (Zb Vo) ["_law_sign","_law_end","_law_place","_law_k","_law_file"] [none,some 2,some 1,some 6,some 0] _ _ _ _ _ _ _ _ _ _ _ _ _ Vd.nd rfl (by trivial) rfl (@pi_str _ _ _ _ (pv 4)) ⟨rfl,rfl,by decide +kernel,by decide +kernel⟩ (fun _ _ _=>(@Zo _ 0 _ _ (show List.Nodup (["_law_sign","_law_end","_law_place","_law_k","_law_file"]:List Str) from by decide +kernel) rfl (Or.inl rfl) (by trivial))) (fun _ _ _=>(@pts_one _ _ _ (@PW.pt _ _ _ (@pw_and _ _ _ _ _ _ _ (@Zm _ _ _ _ _ _ _ _ op_lt (@Zg _ _ _ _ _ _ _ _ Yx (pv 2) (pv 3)) (pv 1) (Zd _)) (@pw_and1 _ _ _ _ (@Zm _ _ _ _ _ _ _ _ Ym (@Z9 _ _ _ _ _ _ _ _ _ call_ord rfl m.ord b_ord (Zf (pv 0) Zx rfl) (by decide) (by decide) rfl rfl) (@Za _ _ _ _ _ _ _ ix_seq (pv 4) (@Zg _ _ _ _ _ _ _ _ Yx (pv 2) (pv 3)) (fun _ _=>rfl)) (Zd _))))))) (fun _ _ _=>(pv 0)) (by trivial) (by trivial) (by trivial)) (@Zj _ _ _ _ _ (@Ze _ _ _ _ _ _ _ _ (@Zm _ _ _ _ _ _ _ _ op_eqNil (pv 7) (@Yf _ _ _ _ Zx) (Zd _)) (@Zv _ _ _ (@Zc _ _ _ _ (@Zn _ _ _ _ _ (Zf Ys (Zf (@Zg _ _ _ _ _ _ _ _ Yx (pv 1) (pv 6)) Zx rfl) rfl)))) Zl) (@Zv _ _ _ (@Zk _ 5 _ _ _ _ _ Vd.nd rfl (by trivial) (@Zg _ _ _ _ _ _ _ _ Vy (pv 5) (@Za _ _ _ _ _ _ _ Z8 (pv 7) Zz (fun _ _=>rfl))) rfl (by trivial))))) (by trivial)) (@Zv _ _ _ (@Zc _ _ _ _ (@Zn _ _ _ _ _ (Zf (pv 5) (Zf (@Zg _ _ _ _ _ _ _ _ Yx (pv 1) (pv 3)) Zx rfl) rfl)))))), ?_⟩
 have hz:=hf.ln
 refine ⟨_,rfl,_,rfl,by omega,by omega,V1 (n:=((k:Nat):Int).toNat) (fun i σ H2=>∃ (xs:List Nat) (o6 o7:Option V),σ=[some (.ref a),some (.int (p:Int)),some (.int (e:Int)),some (.int (k:Int)),some (.str y),some (.str (sOf xs)),o6,o7]/\Zt H H2/\i<=k/\xs.length=i/\Vg bs g e k p=appR xs (Vg bs g e (k - i) (p+i)))
  ⟨[],_,_,rfl,Zt.refl H,by omega,rfl, ?_⟩ ?_ ?_⟩
 ·show _=appR [] (Vg bs g e k p)
  cases Vg bs g e k p <;> rfl
 ·rintro i σ H2 hi ⟨xs,o6,o7,rfl,s2,ik,xl,es⟩
  have hf2:=hf.same s2
  have un:∀ n,n<=10->(A.deeper (envOfC "_law_signs_at" (Zb Vo) s.heap.objs.size f cdv)).units+n<cLine:=fun n h=>by
   have:=hr.un
   omega
  have fl0:∃ fl:Nat->Bool,fl=fun c:Nat=>decide (p+i<e) && (((c:Nat):Int) == bs.getD (p+i) 0):=⟨_,rfl⟩
  obtain ⟨fl,efl⟩:=fl0
  refine ⟨_,rfl,y,rfl,fun D fp sx hD=>?_⟩
  refine comp_str (x:=y) (fun j ys σ H5=>(∃ o',σ=[o',some (.int (e:Int)),some (.int (p:Int)),some (.int (0+(i:Int))),some (.ref a)])/\ys=((y.cps.toList.take j).filter fl).map (fun c=>V.str (ch c))/\Zt H2 H5/\H5 D=some (.lst ys)) ⟨⟨_,rfl⟩,rfl,(Zt.refl H2).put hD,Zq⟩ ?_ ?_ ?_
  ·rintro j ys σ H5 hj ⟨_,_,s5,h5⟩
   exact h5
  ·rintro j c ys σ H5 hx ⟨⟨o',rfl⟩,ey,s5,h5⟩
   have hx':y.cps.toList[j]?=some c:=by simpa using hx
   have yl:ys.length<sizeLine:=by
    rw [ey,List.length_map]
    refine Nat.lt_of_le_of_lt (Nat.le_trans (List.length_filter_le _ _) (show _<=1000 from ?_)) (by decide)
    have:=sg.ln
    rw [List.length_take,Array.length_toList]
    show min j y.length<=_
    omega
   have stop:fl c=false->((∃ o',([some (.str ⟨#[c]⟩),some (.int (e:Int)),some (.int (p:Int)),some (.int (0+(i:Int))),some (.ref a)]:L2.St)=[o',some (.int (e:Int)),some (.int (p:Int)),some (.int (0+(i:Int))),some (.ref a)])/\ys=((y.cps.toList.take (j+1)).filter fl).map (fun c=>V.str (ch c))/\Zt H2 H5/\H5 D=some (.lst ys)):=fun z=>by
    refine ⟨⟨_,rfl⟩, ?_,s5,h5⟩
    rw [List.take_succ,hx',List.filter_append,show (some c).toList.filter fl=[] by simp [z],List.append_nil]
    exact ey
   refine ⟨_,rfl,_,rfl,_,_,rfl,rfl,_,rfl,_,_,rfl,rfl,_,rfl, ?_⟩
   by_cases lt:p+i<e
   ·refine Yv (decide_eq_true (show (p:Int)+(0+(i:Int))<(e:Int) by omega)) ?_
    refine ⟨_,rfl,⟨#[c]⟩,rfl,rfl,_,rfl,_,rfl,_,rfl,_,_,rfl,rfl,(hf2.same s5).ix (p:=p+i) (by omega) (by show (p:Int)+(0+(i:Int))=_; omega) ⟨rfl,_,rfl, ?_⟩⟩
    rw [Yd]
    by_cases eq:(c:Int)=bs.getD (p+i) 0
    ·have z:fl c=true:=by rw [efl]; simp only [decide_eq_true lt,Bool.true_and]; exact beq_iff_eq.mpr eq
     refine Yv (beq_iff_eq.mpr eq) ⟨_,rfl,h5,yl,⟨_,rfl⟩, ?_,s5.put hD,Zq⟩
     rw [List.take_succ,hx',List.filter_append,show (some c).toList.filter fl=[c] by simp [z],List.map_append, <-ey]
     rfl
    ·exact Z2 (beq_false_of_ne eq) (stop (by rw [efl]; simp only [decide_eq_true lt,Bool.true_and]; exact beq_false_of_ne eq))
   ·exact Z2 (decide_eq_false (show ¬ (p:Int)+(0+(i:Int))<(e:Int) by omega)) (Z2 rfl (stop (by rw [efl]; simp only [decide_eq_false lt,Bool.false_and])))
  rintro ys σ5 H5 ⟨_,ey,s5,h5⟩
  rw [List.take_of_length_le (by rw [Array.length_toList]; exact Nat.le_refl _)] at ey
  refine ⟨_,rfl,(sz 0),fun ln hln=>?_⟩
  have s6:=s5.trans (Zt.lay (o:=.lst []) hln)
  refine ⟨D,ln,ys,rfl,rfl,Yc.of (by rw [Zh (Z5 h5 hln)]; exact h5),Yc.of Zq,(un 0 (by omega)),_,rfl, ?_⟩
  rw [show k - i=(k - (i+1))+1 by omega] at es
  by_cases gd:p+i<e/\g (bs.getD (p+i) 0)=true
  ·obtain ⟨_,c0,_⟩:=hf.by'.at (p:=p+i) (by omega)
   have tn:((bs.getD (p+i) 0).toNat:Int)=bs.getD (p+i) 0:=by omega
   have mem:(bs.getD (p+i) 0).toNat∈y.cps.toList.filter fl:=List.mem_filter.mpr ⟨(sg.mem _).mpr (by rw [tn]; exact gd.2),by rw [efl]; simp only [decide_eq_true gd.1,Bool.true_and]; exact beq_iff_eq.mpr tn⟩
   cases hF:y.cps.toList.filter fl with
   | nil=>rw [hF] at mem; cases mem
   | cons c cs =>
    have ec:c=(bs.getD (p+i) 0).toNat:=by
     have:fl c=true:=(List.mem_filter.mp (by rw [hF]; exact List.mem_cons_self)).2
     rw [efl] at this
     simp only [Bool.and_eq_true] at this
     have:=beq_iff_eq.mp this.2
     omega
    rw [hF] at ey
    rw [rSig_succ gd,appR_app] at es
    subst ey
    refine Z2 rfl ⟨_,rfl,_,rfl,D,_,_,_,rfl,rfl,Yc.of (by rw [Zh (Z5 h5 hln)]; exact h5),(show atI (V.str (ch c)::List.map (fun c=>V.str (ch c)) cs) ((0:Nat):Int)=some (V.str (ch c)) from L2.Z1 (j:=0) rfl),_,_,rfl,rfl, ?_,xs++[(bs.getD (p+i) 0).toNat],some (.int (0+(i:Int))),some (.ref D), ?_,s2.trans s6,by omega,by rw [List.length_append,xl]; rfl,es⟩
    ·rw [sOf_len]
     exact Nat.le_trans (show _<=2000 by show xs.length+1<=_; omega) (by decide)
    ·rw [<-sOf_more,ec]; rfl
  ·have nF:y.cps.toList.filter fl=[]:=by
    rw [List.filter_eq_nil_iff]
    intro c mc z
    rw [efl] at z
    simp only [Bool.and_eq_true] at z
    refine gd ⟨of_decide_eq_true z.1, ?_⟩
    rw [<-beq_iff_eq.mp z.2]
    exact (sg.mem c).mp mc
   rw [nF] at ey
   rw [rSig_bad gd] at es
   subst ey
   refine Yv rfl ⟨_,rfl,_,rfl,_,_,rfl,rfl,(sz 2),fun t ht=>q _ _ ((s2.trans s6).trans (Zt.lay ht)) ?_⟩
   rw [es]
   refine ⟨t,rfl,Yg.of ?_⟩
   rw [Zq]
   show some (HO.tup [.non,.int ((p:Int)+(0+(i:Int)))])=_
   rw [show (p:Int)+(0+(i:Int))=((p+i:Nat):Int) by omega]
 ·rintro σ H2 ⟨xs,o6,o7,rfl,s2,ik,xl,es⟩
  have et:((k:Nat):Int).toNat=k:=by omega
  rw [et] at xl es
  rw [show k - k=0 by omega] at es
  have es:Vg bs g e k p=.ok xs (p+k):=es.trans (by show Rs.ok (xs++[]) _=_; rw [List.append_nil])
  refine ⟨_,rfl,_,rfl,_,rfl,_,_,rfl,rfl,(sz 2),fun t ht=>q _ _ (s2.trans (Zt.lay ht)) ?_⟩
  rw [es]
  exact ⟨t,_,rfl,Yg.of Zq,rfl⟩
end
def rK0 (bs:List Int):Nat->Nat->Nat->Rs Lb
 | 1,p,e=>match Z7 bs 8 p e with
  | .no q=>.no q
  | .ok v q=>if v=0 then .no (q - 1) else (match Vg bs gLow e v.toNat q with | .no q'=>.no q' | .ok xs q'=>.ok (.key (sOf xs)) q')
 | _,p,e=>match Z7 bs 999 p e with
  | .no q=>.no q
  | .ok v q=>if v=0 then .no (q - 1) else .ok (.num v) q
def spKeyAt (K:W.Frag):Sp:=fun vs H Q _=>∃ (a:Addr) (bs:List Int) (p e s:Nat),vs=[.ref a,.int (p:Int),.int (e:Int),.int ((s+2:Nat):Int)]/\(s=1\/s=2)/\FB K H a bs/\p<=e/\e<=bs.length/\∀ v H',Zt H H'->TR K vL H' v (rK0 bs s p e)->Q v H'
theorem low_sg:SgT gLow "abcdefghijklmnopqrstuvwxyz" := by
 refine ⟨by decide +kernel,fun c=>?_⟩
 have h:(("abcdefghijklmnopqrstuvwxyz" : Str).cps.toList)=List.range' 97 26:=by decide +kernel
 rw [h,List.mem_range'_1]
 unfold gLow
 rw [decide_eq_true_iff]
 omega
section
variable {P:Program} {w:World} {K:W.Frag} {mg:Str->Option Value} {base:Heap} {f:Addr} {fd:FuncData}
theorem ok_key_at (F:Uf K "_law_key_at" "_law_key_at" s_law_key_at f fd) (g_law_number_at:Fn P w K mg base 1 "_law_number_at" ["_law_file","_law_place","_law_end","_law_most"] (spNumAt K)) (g_law_signs_at:Fn P w K mg base 1 "_law_signs_at" ["_law_file","_law_place","_law_end","_law_many","_law_signs"] (spSigAt K)) :
  Yj P w K mg base CX0 2 f fd ["_law_file","_law_place","_law_end","_law_head"] (spKeyAt K):=by
 refine F.ok sc_law_key_at (fun vs H Q E h=>?_) (fun cdv A outer s H vs Q E hr h=>?_)
 ·obtain ⟨a,bs,p,e,s,rfl,_⟩:=h
  rfl
 obtain ⟨a,bs,p,e,s',rfl,hs,hf,pe,el,q⟩:=h
 refine ⟨_,(@Zj _ _ _ _ _ (@ps_asg _ _ _ _ _ _ (@Zy _ _ _ _ _ _ _ _ _ _ g_law_number_at hr.m rfl (Zf (pv 0) (Zf (pv 1) (Zf (pv 2) (Zf (@Za _ _ _ _ _ _ _ Z8 (@Yf _ _ _ _ (Zf Zz (Zf Zz Zx rfl) rfl)) (@Zg _ _ _ _ _ _ _ _ Y9 (pv 3) Zz) (fun _ _=>rfl)) Zx rfl) rfl) rfl) rfl) (by decide) rfl rfl) (@pg_tup _ _ _ _ _ _ rfl (@Vj _ _ _ _ _ (@Zo _ 4 _ _ sc_law_key_at.nd rfl (by trivial) (by trivial)) (@Vj _ _ _ _ _ (@Zo _ 5 _ _ sc_law_key_at.nd rfl (by trivial) (by trivial)) pgs_nil (by trivial)) (by trivial)) (by trivial) (by trivial)) (by trivial) (by trivial) (by trivial)) (@Zj _ _ _ _ _ (@Ze _ _ _ _ _ _ _ _ (@Zm _ _ _ _ _ _ _ _ op_isN (pv 4) Ys (Zd _)) (@Zv _ _ _ (@Zc _ _ _ _ (@Zn _ _ _ _ _ (Zf Ys (Zf (pv 5) Zx rfl) rfl)))) Zl) (@Zj _ _ _ _ _ (@Ze _ _ _ _ _ _ _ _ (@Zm _ _ _ _ _ _ _ _ Ym (pv 4) Zz (Zd _)) (@Zv _ _ _ (@Zc _ _ _ _ (@Zn _ _ _ _ _ (Zf Ys (Zf (@Zg _ _ _ _ _ _ _ _ Y9 (pv 5) Zz) Zx rfl) rfl)))) Zl) (@Zj _ _ _ _ _ (@Ze _ _ _ _ _ _ _ _ (@Zm _ _ _ _ _ _ _ _ Ym (pv 3) Zz (Zd _)) (@Zv _ _ _ (@Zc _ _ _ _ (@Zn _ _ _ _ _ (Zf (pv 4) (Zf (pv 5) Zx rfl) rfl)))) Zl) (@Zv _ _ _ (@Zc _ _ _ _ (@Zy _ _ _ _ _ _ _ _ _ _ g_law_signs_at hr.m rfl (Zf (pv 0) (Zf (pv 5) (Zf (pv 2) (Zf (pv 4) (Zf Zp Zx rfl) rfl) rfl) rfl) rfl) (by decide) rfl rfl))))))), ?_⟩
 refine ⟨_,rfl,_,rfl,_,rfl,(sz 2),fun lm hlm=>?_⟩
 have s1:=Zt.lay (o:=.lst [.int 8,.int 999]) hlm
 have hf1:=hf.same s1
 have nope:∀ (H2:Hp) (o:Nat) (i:Int),Zt H H2->i=(o:Int)->rK0 bs s' p e=.no o->2<=sizeLine/\∀ t,H2 t=none->Q (.ref t) (Z6 H2 t (.tup [.non,.int i])):=fun H2 o i s2 ei eq=>⟨by decide,fun t ht=>q _ _ (s2.trans (Zt.lay ht)) (by rw [eq,ei]; exact ⟨t,rfl,Yg.of Zq⟩)⟩
 rcases hs with rfl | rfl
 ·refine ⟨_,rfl,_,_,rfl,rfl,lm,_,_,_,rfl,rfl,Yc.of Zq,(show atI [V.int 8,V.int 999] ((0:Nat):Int)=_ from L2.Z1 (j:=0) rfl),a,bs,p,e,8,rfl,hf1,pe,el,by decide,fun v H2 s2 tr=>?_⟩
  have s02:=s1.trans s2
  simp only [rK0] at q nope
  cases er:Z7 bs 8 p e with
  | no q' =>
   rw [er] at tr q nope
   obtain ⟨t,rfl,ht⟩:=tr
   refine ⟨t,_,rfl,ht,rfl,_,_,rfl,_,_,rfl,rfl, ?_⟩
   exact ⟨_,rfl,rfl,_,rfl,Yv (decide_eq_true rfl) ⟨_,rfl,nope H2 q' _ s02 rfl rfl⟩⟩
  | ok n q' =>
   rw [er] at tr q nope
   obtain ⟨p1,p2,p3⟩:=Z4 er
   have n0:=Vn hf.by' el er
   obtain ⟨t,x,rfl,ht,ex⟩:=tr
   obtain rfl:x=.int n:=ex
   refine ⟨t,_,rfl,ht,rfl,_,_,rfl,_,_,rfl,rfl, ?_⟩
   refine ⟨_,rfl,rfl,_,rfl,Z2 (decide_eq_false (by intro z; cases z)) ?_⟩
   refine ⟨_,rfl,rfl,_,rfl, ?_⟩
   rw [Yd]
   simp only at q nope
   by_cases nz:n=0
   ·rw [if_pos nz] at nope
    refine Yv (beq_iff_eq.mpr nz) ⟨_,rfl,_,_,rfl,rfl,nope H2 (q' - 1) _ s02 (by show (q':Int) - 1=_; omega) rfl⟩
   ·rw [if_neg nz] at q
    refine Z2 (beq_false_of_ne nz) ?_
    refine ⟨_,rfl,rfl,_,rfl,Z2 (by decide +kernel) ?_⟩
    obtain ⟨n,rfl⟩:=Int.eq_ofNat_of_zero_le n0
    refine ⟨_,rfl,_,rfl,_,rfl,_,rfl,a,bs,q',e,n,_,gLow,rfl,hf.same s02,p2,el,by omega,low_sg,fun v H3 s3 tr3=>q v H3 (s02.trans s3) ?_⟩
    show TR K vL H3 v (match Vg bs gLow e n q' with | .no q'=>.no q' | .ok xs q'=>.ok (.key (sOf xs)) q')
    cases es:Vg bs gLow e n q' with
    | no q2=>rw [es] at tr3; exact tr3
    | ok xs q2 =>
     rw [es] at tr3
     obtain ⟨t,x,rfl,ht,ex⟩:=tr3
     exact ⟨t,x,rfl,ht,ex⟩
 ·refine ⟨_,rfl,_,_,rfl,rfl,lm,_,_,_,rfl,rfl,Yc.of Zq,(show atI [V.int 8,V.int 999] ((1:Nat):Int)=_ from L2.Z1 (j:=1) rfl),a,bs,p,e,999,rfl,hf1,pe,el,by decide,fun v H2 s2 tr=>?_⟩
  have s02:=s1.trans s2
  simp only [rK0] at q nope
  cases er:Z7 bs 999 p e with
  | no q' =>
   rw [er] at tr q nope
   obtain ⟨t,rfl,ht⟩:=tr
   refine ⟨t,_,rfl,ht,rfl,_,_,rfl,_,_,rfl,rfl, ?_⟩
   exact ⟨_,rfl,rfl,_,rfl,Yv (decide_eq_true rfl) ⟨_,rfl,nope H2 q' _ s02 rfl rfl⟩⟩
  | ok n q' =>
   rw [er] at tr q nope
   obtain ⟨p1,p2,p3⟩:=Z4 er
   obtain ⟨t,x,rfl,ht,ex⟩:=tr
   obtain rfl:x=.int n:=ex
   refine ⟨t,_,rfl,ht,rfl,_,_,rfl,_,_,rfl,rfl, ?_⟩
   refine ⟨_,rfl,rfl,_,rfl,Z2 (decide_eq_false (by intro z; cases z)) ?_⟩
   refine ⟨_,rfl,rfl,_,rfl, ?_⟩
   rw [Yd]
   simp only at q nope
   by_cases nz:n=0
   ·rw [if_pos nz] at nope
    refine Yv (beq_iff_eq.mpr nz) ⟨_,rfl,_,_,rfl,rfl,nope H2 (q' - 1) _ s02 (by show (q':Int) - 1=_; omega) rfl⟩
   ·rw [if_neg nz] at q
    refine Z2 (beq_false_of_ne nz) ?_
    refine ⟨_,rfl,rfl,_,rfl,Yv (by decide +kernel) ?_⟩
    exact ⟨_,rfl,_,rfl,(sz 2),fun t2 ht2=>q _ _ (s02.trans (Zt.lay ht2)) ⟨t2,_,rfl,Yg.of Zq,rfl⟩⟩
end
def lbLt:Lb->Lb->Prop
 | .key x,.key y=>x.cps.toList<y.cps.toList
 | .num a,.num b=>a<b
 | _,_=>True
instance (a b:Lb):Decidable (lbLt a b):=by
 unfold lbLt
 split <;> infer_instance
def lk (l:Lb):Rs Lb->Rs Lb
 | .no q=>.no q
 | .ok l' q=>if lbLt l l' then .ok l' q else .no (q - 1)
theorem lk_pos {l l':Lb} {q:Nat} (h:lbLt l l'):lk l (.ok l' q)=.ok l' q:=if_pos h
theorem lk_neg {l l':Lb} {q:Nat} (h:¬ lbLt l l'):lk l (.ok l' q)=.no (q - 1):=if_neg h
section
variable {bs:List Int}
theorem rLab_k0 (B:Byt bs) {s p e:Nat} {l:Lb} (he:e<=bs.length) (h:(s=1/\∃ x,l=.key x)\/(s=2/\∃ n,0<=n/\l=.num n)):rLab bs s l p e=lk l (rK0 bs s p e):=by
 rcases h with ⟨rfl,x,rfl⟩ | ⟨rfl,n,n0,rfl⟩
 ·show (match rKey bs x p e with | .ok x q=>Rs.ok (Lb.key x) q | .no q=>.no q)=_
  unfold rKey
  simp only [rK0]
  cases er:Z7 bs 8 p e with
  | no q=>rfl
  | ok v q =>
   have v0:=Vn B he er
   simp only
   by_cases z:v=0
   ·rw [if_neg (by omega),if_pos z]; rfl
   ·rw [if_pos (by omega),if_neg z]
    cases es:Vg bs gLow e v.toNat q with
    | no q'=>rfl
    | ok xs q' =>
     simp only
     by_cases c:x.cps.toList<xs
     ·rw [if_pos c,lk_pos (show lbLt (.key x) (.key (sOf xs)) by show _<(sOf xs).cps.toList; rw [Uz]; exact c)]
     ·rw [if_neg c,lk_neg (show ¬ lbLt (.key x) (.key (sOf xs)) by show ¬ _<(sOf xs).cps.toList; rw [Uz]; exact c)]
 ·show (match rNum bs n p e with | .ok n q=>Rs.ok (Lb.num n) q | .no q=>.no q)=_
  unfold rNum
  simp only [rK0]
  cases er:Z7 bs 999 p e with
  | no q=>rfl
  | ok v q =>
   have v0:=Vn B he er
   simp only
   by_cases z:v=0
   ·rw [if_neg (by omega),if_pos z]; rfl
   ·rw [if_neg z]
    by_cases c:n<v
    ·rw [if_pos c,lk_pos (show lbLt (.num n) (.num v) from c)]
    ·rw [if_neg c,lk_neg (show ¬ lbLt (.num n) (.num v) from c)]
theorem rK0_kind (B:Byt bs) {s p e q:Nat} {l:Lb} (hs:s=1\/s=2) (he:e<=bs.length) (h:rK0 bs s p e=.ok l q):((s=1/\∃ x,l=.key x)\/(s=2/\∃ n,0<=n/\l=.num n))/\lbLt (lb0 s) l/\p<q/\q<=e:=by
 rcases hs with rfl | rfl
 ·simp only [rK0] at h
  cases er:Z7 bs 8 p e with
  | no q=>rw [er] at h; cases h
  | ok v q' =>
   rw [er] at h
   simp only at h
   obtain ⟨p1,p2,p3⟩:=Z4 er
   have v0:=Vn B he er
   split at h
   ·cases h
   ·cases es:Vg bs gLow e v.toNat q' with
    | no q'=>rw [es] at h; cases h
    | ok xs q2 =>
     rw [es] at h
     cases h
     obtain ⟨i1,i2,i3,i4,i5⟩:=rSig_at B he es
     refine ⟨.inl ⟨rfl,_,rfl⟩, ?_,by omega,i4 p2⟩
     show ("" : Str).cps.toList<(sOf xs).cps.toList
     rw [Uz]
     cases xs with
     | nil=>simp at i2; omega
     | cons a l=>exact List.Lex.nil
 ·simp only [rK0] at h
  cases er:Z7 bs 999 p e with
  | no q=>rw [er] at h; cases h
  | ok v q' =>
   rw [er] at h
   simp only at h
   obtain ⟨p1,p2,p3⟩:=Z4 er
   have v0:=Vn B he er
   split at h
   ·cases h
   ·cases h
    exact ⟨.inr ⟨rfl,_,v0,rfl⟩,by show (0:Int)<v; omega,p1,p2⟩
end
def mapL (s:Nat):Rs (List Lb × List IT)->Rs IT
 | .ok (ls,es) q=>.ok (.lst s ls es) q
 | .no q=>.no q
def spReadAt (K:W.Frag) (n:Nat):Sp:=fun vs H Q _=>n<=100/\∃ (a:Addr) (bs:List Int) (p e:Nat),vs=[.ref a,.int (p:Int),.int (e:Int),.int (101 - (n:Int))]/\FB K H a bs/\p<=e/\e<=bs.length/\∀ v H',Zt H H'->TR K (vD K) H' v (Yl bs n p e)->Q v H'
def spRoomAt (K:W.Frag) (n:Nat):Sp:=fun vs H Q _=>n<=99/\∃ (a:Addr) (bs:List Int) (p e s:Nat),vs=[.ref a,.int (p:Int),.int (e:Int),.int ((s+2:Nat):Int),.int (100 - (n:Int))]/\s<=2/\FB K H a bs/\p<=e/\e<=bs.length/\∀ v H',Zt H H'->TR K (vD K) H' v (mapL s (V2 bs (fun p e=>Yl bs n p e) s e (e - p) (lb0 s) p))->Q v H'
theorem last_test {σ:L2.St} {H:Hp} {Q:Bool->Hp->Prop} {lab lb:Lb} {lastV:V} {b:Bool} (h6:σ[6]?=some (some lastV)) (h7:σ[7]?=some (some (lbV lb)))
  (h:(lastV=.non/\b=false)\/(lastV=lbV lab/\(((∃ x,lab=.key x)/\∃ x,lb=.key x)\/((∃ n,lab=.num n)/\∃ n,lb=.num n))/\(b=true ↔ ¬ lbLt lab lb))) (q:Q b H) :
  tAnd (tTest (tOp (fun x y H Q=>y=V.non/\Q (V.bl (!decide (x=V.non))) H) (tVar 6) (tC .non))) (tTest (tOp (fun x y H Q=>rI0 (fun i j=>V.bl (decide (i<=j))) x y H Q\/∃ i j,x=V.str i/\y=V.str j/\Q (V.bl (!decide (j.cps.toList<i.cps.toList))) H) (tVar 7) (tVar 6))) σ H Q:=by
 rcases h with ⟨rfl,rfl⟩ | ⟨rfl,kd,hb⟩
 ·exact ⟨_,h6,rfl,_,rfl,Z2 (by simp) q⟩
 ·rcases kd with ⟨⟨x,rfl⟩,y,rfl⟩ | ⟨⟨n,rfl⟩,m,rfl⟩
  ·refine ⟨_,h6,rfl,_,rfl,Yv (by simp [lbV]) ⟨_,h7,_,h6,.inr ⟨_,_,rfl,rfl,_,rfl, ?_⟩⟩⟩
   have e:(!decide (x.cps.toList<y.cps.toList))=b:=by
    cases b with
    | true=>simp only [Bool.not_eq_true',decide_eq_false_iff_not]; exact hb.mp rfl
    | false =>
     simp only [Bool.not_eq_false',decide_eq_true_eq]
     exact Classical.byContradiction fun z=>Bool.noConfusion (hb.mpr z)
   rw [e]; exact q
  ·refine ⟨_,h6,rfl,_,rfl,Yv (by simp [lbV]) ⟨_,h7,_,h6,.inl ⟨_,_,rfl,rfl,_,rfl, ?_⟩⟩⟩
   have e:decide (m<=n)=b:=by
    cases b with
    | true =>
     have:¬ n<m:=hb.mp rfl
     exact decide_eq_true (by omega)
    | false =>
     have:n<m:=Classical.byContradiction fun z=>Bool.noConfusion (hb.mpr z)
     exact decide_eq_false (by omega)
   rw [e]; exact q
section
variable {P:Program} {w:World} {K:W.Frag} {mg:Str->Option Value} {base:Heap} {f:Addr} {fd:FuncData}
theorem ok_room_at {n k0:Nat} (F:Uf K "_law_room_at" "_law_room_at" s_law_room_at f fd) (m:Bn mg) (g_law_key_at:Fn P w K mg base 2 "_law_key_at" ["_law_file","_law_place","_law_end","_law_head"] (spKeyAt K)) (g_law_read_at:Fn P w K mg base (k0+3) "_law_read_at" ["_law_file","_law_place","_law_end","_law_deep"] (spReadAt K n)) :
  Yj P w K mg base CX0 (k0+4) f fd ["_law_file","_law_place","_law_end","_law_head","_law_deep"] (spRoomAt K n):=by
 refine F.ok Yr (fun vs H Q E h=>?_) (fun cdv A outer s H vs Q E hr h=>?_)
 ·obtain ⟨_,a,bs,p,e,s,rfl,_⟩:=h
  rfl
 obtain ⟨n99,a,bs,p,e,st,rfl,st2,hf,pe,el,q⟩:=h
 refine ⟨_,(@Zj _ _ _ _ _ (@Zk _ 5 _ _ _ _ _ Yr.nd rfl (by trivial) (@Yf _ _ _ _ Zx) rfl (by trivial)) (@Zj _ _ _ _ _ (@Zk _ 6 _ _ _ _ _ Yr.nd rfl (by trivial) Ys rfl (by trivial)) (@Zj _ _ _ _ _ (@ps_while _ _ _ _ _ _ PassesOwn.never (@Zm _ _ _ _ _ _ _ _ op_lt (pv 1) (pv 2) (Zd _)) (@Zj _ _ _ _ _ (@Ze _ _ _ _ _ _ _ _ (@Zm _ _ _ _ _ _ _ _ op_gt (pv 3) Zz (Zd _)) (@Zj _ _ _ _ _ (@ps_asg _ _ _ _ _ _ (@Zy _ _ _ _ _ _ _ _ _ _ g_law_key_at hr.m rfl (Zf (pv 0) (Zf (pv 1) (Zf (pv 2) (Zf (pv 3) Zx rfl) rfl) rfl) rfl) (by decide) rfl rfl) (@pg_tup _ _ _ _ _ _ rfl (@Vj _ _ _ _ _ (@Zo _ 7 _ _ Yr.nd rfl (by trivial) (by trivial)) (@Vj _ _ _ _ _ (@Zo _ 1 _ _ Yr.nd rfl (by trivial) (by trivial)) pgs_nil (by trivial)) (by trivial)) (by trivial) (by trivial)) (by trivial) (by trivial) (by trivial)) (@Zj _ _ _ _ _ (@Ze _ _ _ _ _ _ _ _ (@Zm _ _ _ _ _ _ _ _ op_isN (pv 7) Ys (Zd _)) (@Zv _ _ _ (@Zc _ _ _ _ (@Zn _ _ _ _ _ (Zf Ys (Zf (pv 1) Zx rfl) rfl)))) Zl) (@Zj _ _ _ _ _ (@Ze _ _ _ _ _ _ _ _ (@PW.pt _ _ _ (@pw_and _ _ _ _ _ _ _ (@Zm _ _ _ _ _ _ _ _ op_notN (pv 6) Ys (Zd _)) (@pw_and1 _ _ _ _ (@Zm _ _ _ _ _ _ _ _ (op_le.or op_le_str) (pv 7) (pv 6) (Zd _))))) (@Zv _ _ _ (@Zc _ _ _ _ (@Zn _ _ _ _ _ (Zf Ys (Zf (@Zg _ _ _ _ _ _ _ _ Y9 (pv 1) Zz) Zx rfl) rfl)))) Zl) (@Zv _ _ _ (@Zk _ 6 _ _ _ _ _ Yr.nd rfl (by trivial) (pv 7) rfl (by trivial)))))) Zl) (@Zj _ _ _ _ _ (@ps_asg _ _ _ _ _ _ (@Zy _ _ _ _ _ _ _ _ _ _ g_law_read_at hr.m rfl (Zf (pv 0) (Zf (pv 1) (Zf (pv 2) (Zf (@Zg _ _ _ _ _ _ _ _ Yx (pv 4) Zz) Zx rfl) rfl) rfl) rfl) (by decide) rfl rfl) (@pg_tup _ _ _ _ _ _ rfl (@Vj _ _ _ _ _ (@Zo _ 8 _ _ Yr.nd rfl (by trivial) (by trivial)) (@Vj _ _ _ _ _ (@Zo _ 1 _ _ Yr.nd rfl (by trivial) (by trivial)) pgs_nil (by trivial)) (by trivial)) (by trivial) (by trivial)) (by trivial) (by trivial) (by trivial)) (@Zj _ _ _ _ _ (@Ze _ _ _ _ _ _ _ _ (@Zm _ _ _ _ _ _ _ _ op_isN (pv 8) Ys (Zd _)) (@Zv _ _ _ (@Zc _ _ _ _ (@Zn _ _ _ _ _ (Zf Ys (Zf (pv 1) Zx rfl) rfl)))) Zl) (@Zj _ _ _ _ _ (@Ze _ _ _ _ _ _ _ _ (@Zm _ _ _ _ _ _ _ _ op_gt (pv 3) Zz (Zd _)) (@Zv _ _ _ (@Zk _ 8 _ _ _ _ _ Yr.nd rfl (by trivial) (@Zn _ _ _ _ _ (Zf (pv 6) (Zf (pv 8) Zx rfl) rfl)) rfl (by trivial))) Zl) (@Zv _ _ _ (@Yz _ _ _ _ (@pe_bm _ _ _ _ _ _ _ _ _ _ _ _ PySem.F.plainAttrs_list PySem.F.slot_list_append PySem.F.type_list_append V0 (pv 5) (Zf (pv 8) Zx rfl) (by trivial) (by trivial) (by trivial) (by trivial) (by trivial)) rfl))))))) (@Zv _ _ _ (@Zc _ _ _ _ (@Zn _ _ _ _ _ (Zf (@Zn _ _ _ _ _ (Zf (@Za _ _ _ _ _ _ _ Z8 (@Yf _ _ _ _ (Zf Zp (Zf Zp (Zf Zp Zx rfl) rfl) rfl)) (@Zg _ _ _ _ _ _ _ _ Y9 (pv 3) Zz) (fun _ _=>rfl)) (Zf (@Yn _ _ _ _ _ _ _ _ _ Yu rfl m.tuple b_tuple (Zf (pv 5) Zx rfl) (by trivial) (by trivial) (by trivial) (by trivial)) Zx rfl) rfl)) (Zf (pv 2) Zx rfl) rfl))))))), ?_⟩
 have hz:=hf.ln
 refine ⟨(sz 0),fun l hl0=>?_⟩
 generalize hR:V2 bs (fun p e=>Yl bs n p e) st e (e - p) (lb0 st) p=R0 at q
 have nope:∀ (H2:Hp) (o:Nat) (i:Int),Zt H H2->i=(o:Int)->R0=.no o->2<=sizeLine/\∀ t,H2 t=none->Q (.ref t) (Z6 H2 t (.tup [.non,.int i])):=fun H2 o i s2 ei eq=>⟨by decide,fun t ht=>q _ _ (s2.trans (Zt.lay ht)) (by rw [eq,ei]; exact ⟨t,rfl,Yg.of Zq⟩)⟩
 refine ⟨fun μ σ H4=>∃ (p' k:Nat) (ls:List Lb) (es:List IT) (zs:List V) (lab:Lb) (lastV:V) (o7 o8:Option V),μ=e - p'/\σ=[some (.ref a),some (.int (p':Int)),some (.int (e:Int)),some (.int ((st+2:Nat):Int)),some (.int (100 - (n:Int))),some (.ref l),some lastV,o7,o8]/\Zt H H4/\H4 l=some (.lst zs)/\ls.length=es.length/\zs.length+(e - p')<=1000000/\p'<=e/\Zi K H4 (Y5 ls (toDs es)) zs/\LbK st lab/\LbN lab/\((lastV=.non/\lab=lb0 st)\/lastV=lbV lab)/\e - p'<=k/\R0=appM ls es (V2 bs (fun p e=>Yl bs n p e) st e k lab p'),
  ⟨e - p,p,e - p,[],[],[],lb0 st,.non,_,_,rfl,rfl,(Zt.refl H).put hl0,Zq,rfl,by simp only [List.length_nil]; omega,pe,rfl,lb0_k st2,lb0_n st,.inl ⟨rfl,rfl⟩,Nat.le_refl _,by rw [appM_nil,hR]⟩, ?_⟩
 rintro μ σ H4 ⟨p',k,ls,es,zs,lab,lastV,o7,o8,rfl,rfl,s4,hl4,hll,zl,pe',ar,lkk,lnn,hlast,kf,eR⟩
 have hf4:=hf.same s4
 refine ⟨_,rfl,_,rfl,_,_,rfl,rfl,_,rfl, ?_⟩
 by_cases pl:p'<e
 ·obtain ⟨k,rfl⟩:∃ k',k=k'+1:=⟨k - 1,by omega⟩
  refine Yv (decide_eq_true (show (p':Int)<(e:Int) by omega)) ⟨fun σ' H'=>∃ m',m'<e - p'/\_,fun σ' H' h=>h, ?_⟩
  refine ⟨_,rfl,_,_,rfl,rfl,_,rfl, ?_⟩
  by_cases s0:st=0
  case' pos =>
   refine Z2 (decide_eq_false (show ¬ (2:Int)<((st+2:Nat):Int) by omega)) ?_
   have l0:lab=.no:=by
    rcases lkk with ⟨_,h⟩ | ⟨h,_⟩ | ⟨h,_⟩
    ·exact h
    ·omega
    ·omega
   have hv0:lastV=lbV .no:=by
    rcases hlast with ⟨h,_⟩ | h
    ·exact h
    ·rw [h,l0]
   obtain ⟨q1,hq1⟩:∃ q1,q1=p':=⟨_,rfl⟩
   obtain ⟨lb,hlb⟩:∃ lb,lb=Lb.no:=⟨_,rfl⟩
   have e1:rLab bs st lab p' e=.ok lb q1:=by rw [s0,l0,hq1,hlb]; rfl
   have lk':LbK st lb:=.inl ⟨s0,hlb⟩
   have ln':LbN lb:=fun y z=>by rw [hlb] at z; cases z
   have pq1:p'<=q1:=by omega
   have q1e:q1<=e:=by omega
   have s5:=s4
   have hl5:=hl4
   have ar5:=ar
   have hf5:=hf4
   rw [hv0, <-hlb,show ((p':Nat):Int)=((q1:Nat):Int) by rw [hq1]]
   generalize H4=H5 at s5 hl5 ar5 hf5
  case' neg =>
   have s12:st=1\/st=2:=by omega
   have kk:(st=1/\∃ x,lab=.key x)\/(st=2/\∃ n,0<=n/\lab=.num n):=by
    rcases lkk with ⟨h,_⟩ | h | ⟨h,n,hn⟩
    ·omega
    ·exact .inl h
    ·exact .inr ⟨h,n,lnn n hn,hn⟩
   have el0:=rLab_k0 (p:=p') hf.by' el kk
   refine Yv (decide_eq_true (show (2:Int)<((st+2:Nat):Int) by omega)) ?_
   refine ⟨_,rfl,_,rfl,_,rfl,_,rfl,a,bs,p',e,st,rfl,s12,hf4,pe',el,fun v H5 s45 tr=>?_⟩
   have s5:=s4.trans s45
   have hl5:=s45 _ _ hl4
   have ar5:=Zi.up s45.up _ _ (Y8 ls es) ar
   have hf5:=hf.same s5
   cases ek:rK0 bs st p' e
   case' no q' =>
    rw [ek] at tr el0
    obtain ⟨t,rfl,ht⟩:=tr
    refine ⟨t,_,rfl,ht,rfl,_,_,rfl,_,_,rfl,rfl, ?_⟩
    rw [rRoom_no1 pl (el0.trans rfl)] at eR
    exact ⟨_,rfl,rfl,_,rfl,Yv (decide_eq_true rfl) ⟨_,rfl,nope H5 q' _ s5 rfl eR⟩⟩
   case' ok lb q1 =>
    rw [ek] at tr el0
    obtain ⟨kd,l0,pq,q1e⟩:=rK0_kind hf.by' s12 el ek
    obtain ⟨t,x,rfl,ht,ex⟩:=tr
    obtain rfl:x=lbV lb:=ex
    refine ⟨t,_,rfl,ht,rfl,_,_,rfl,_,_,rfl,rfl, ?_⟩
    refine ⟨_,rfl,rfl,_,rfl,Z2 (decide_eq_false (by rcases kd with ⟨_,x,rfl⟩ | ⟨_,n,_,rfl⟩ <;> (intro z; cases z))) ?_⟩
    have lk':LbK st lb:=by
     rcases kd with h | ⟨h,n,_,hn⟩
     ·exact .inr (.inl h)
     ·exact .inr (.inr ⟨h,n,hn⟩)
    have ln':LbN lb:=fun y z=>by
     rcases kd with ⟨_,x,h⟩ | ⟨_,n,n0,h⟩
     ·rw [h] at z; cases z
     ·rw [h] at z; cases z; exact n0
    have pq1:p'<=q1:=Nat.le_of_lt pq
    have kinds:((∃ x,lab=.key x)/\∃ x,lb=.key x)\/((∃ n,lab=.num n)/\∃ n,lb=.num n):=by
     rcases kk with ⟨h1,x,hx⟩ | ⟨h1,n,_,hn⟩
     ·rcases kd with ⟨_,y,hy⟩ | ⟨h2,_⟩
      ·exact .inl ⟨⟨x,hx⟩,y,hy⟩
      ·omega
     ·rcases kd with ⟨h2,_⟩ | ⟨_,y,_,hy⟩
      ·omega
      ·exact .inr ⟨⟨n,hn⟩,y,hy⟩
    by_cases lt:lbLt lab lb
    case' neg =>
     have hl':lastV=lbV lab:=by
      rcases hlast with ⟨_,h⟩ | h
      ·rw [h] at lt; exact absurd l0 lt
      ·exact h
     refine last_test (b:=true) rfl rfl (.inr ⟨hl',kinds,⟨fun _=>lt,fun _=>rfl⟩⟩) (Yv rfl ?_)
     rw [rRoom_no1 pl (el0.trans (lk_neg lt))] at eR
     exact ⟨_,rfl,_,_,rfl,rfl,nope H5 (q1 - 1) _ s5 (by show (q1:Int) - 1=_; omega) eR⟩
    case' pos =>
     have e1:=el0.trans (lk_pos (q:=q1) lt)
     refine last_test (b:=false) rfl rfl (by
      rcases hlast with ⟨h,_⟩ | h
      ·exact .inl ⟨h,rfl⟩
      ·exact .inr ⟨h,kinds,⟨fun z=>(nomatch z),fun z=>absurd lt z⟩⟩) (Z2 rfl ?_)
     refine ⟨_,rfl, ?_⟩
  all_goals
   refine ⟨_,rfl,_,rfl,_,rfl,_,rfl,_,_,rfl,rfl,by omega,a,bs,q1,e,(by show [V.ref a,V.int (q1:Int),V.int (e:Int),V.int (100 - (n:Int)+1)]=_; rw [show 100 - (n:Int)+1=101 - (n:Int) by omega]),hf5,q1e,el,fun v H6 s56 tr6=>?_⟩
   have s6:=s5.trans s56
   have hl6:=s56 _ _ hl5
   have ar6:=Zi.up s56.up _ _ (Y8 ls es) ar5
   cases ei:Yl bs n q1 e
   case' no q2 =>
    rw [ei] at tr6
    obtain ⟨t,rfl,ht⟩:=tr6
    refine ⟨t,_,rfl,ht,rfl,_,_,rfl,_,_,rfl,rfl, ?_⟩
    rw [rRoom_no2 pl e1 ei] at eR
    exact ⟨_,rfl,rfl,_,rfl,Yv (decide_eq_true rfl) ⟨_,rfl,nope H6 q2 _ s6 rfl eR⟩⟩
   case' ok it q2 =>
    rw [ei] at tr6
    obtain ⟨t,x,rfl,ht,ex⟩:=tr6
    have ex:Y1 K H6 (toD it) x:=ex
    have pq2:=rItem_pos ei
    obtain ⟨_,_,_,q2e⟩:=rItem_at hf.by' el ei
    rw [rRoom_step pl e1 ei,appM_app] at eR
    have xn:x≠.non:=fun z=>by
     rw [z] at ex
     cases it <;> (obtain ⟨_,_,e,_⟩:=ex; cases e)
    refine ⟨t,_,rfl,ht,rfl,_,_,rfl,_,_,rfl,rfl, ?_⟩
    refine ⟨_,rfl,rfl,_,rfl,Z2 (decide_eq_false xn) ?_⟩
    have zlt:zs.length<sizeLine:=Nat.lt_of_le_of_lt (show _<=1000000 by omega) (by decide)
    refine ⟨_,rfl,_,_,rfl,rfl,_,rfl, ?_⟩
    have step:∀ (z:V) (H7:Hp),Zt H6 H7->Y1 K H7 (prtD lb (toD it)) z->Zt H (Z6 H7 l (.lst (zs++[z])))/\(ls++[lb]).length=(es++[it]).length/\(zs++[z]).length+(e - q2)<=1000000/\Zi K (Z6 H7 l (.lst (zs++[z]))) (Y5 (ls++[lb]) (toDs (es++[it]))) (zs++[z]):=fun z H7 s7 i7=>by
     have hl7:=s7 _ _ hl6
     have up7:Up K H7 (Z6 H7 l (.lst (zs++[z]))):=Bk.up (b:=l) (ys:=zs) (zs:=zs++[z]) ⟨fun x o n h=>by rw [Zh n]; exact h,Zq⟩ hl7
     refine ⟨(s6.trans s7).put hl0,by rw [List.length_append,List.length_append,hll]; rfl,by rw [List.length_append,List.length_singleton]; omega, ?_⟩
     rw [prtDs_snoc hll]
     exact areD_snoc (Zi.up (s7.up.trans up7) _ _ (Y8 _ _) ar6) (Y1.up up7 _ _ (noLs_mem (Y8 [lb] [it]) List.mem_cons_self) i7)
    rcases lk' with ⟨hs0,hlb'⟩ | ⟨hs1,x',hlb'⟩ | ⟨hs2,n'',hlb'⟩
    ·have st':=step x H6 (Zt.refl H6) (by rw [hlb']; exact ex)
     exact Z2 (decide_eq_false (show ¬ (2:Int)<((st+2:Nat):Int) by omega)) ⟨_,rfl,.inl ⟨rfl,_,Yc.of hl6⟩,_,rfl,l,_,_,rfl,rfl,hl6,zlt,e - q2,by omega,q2,k,ls++[lb],es++[it],zs++[x],lb,lbV lb,_,_,rfl,rfl,st'.1,Zq,st'.2.1,st'.2.2.1,q2e,st'.2.2.2,.inl ⟨hs0,hlb'⟩,ln',.inr rfl,by omega,eR⟩
    ·refine Yv (decide_eq_true (show (2:Int)<((st+2:Nat):Int) by omega)) ⟨_,rfl,_,rfl,(sz 2),fun t7 h7=>?_⟩
     have s7:=Zt.lay (o:=.tup [lbV lb,x]) h7
     have st':=step (.ref t7) _ s7 (by rw [hlb'] at s7 ⊢; exact mkD2 (Yg.of Zq) rfl (Y1.up s7.up _ _ (Vq it) ex))
     exact ⟨_,rfl,.inl ⟨rfl,_,Yc.of (s7 _ _ hl6)⟩,_,rfl,l,_,_,rfl,rfl,s7 _ _ hl6,zlt,e - q2,by omega,q2,k,ls++[lb],es++[it],zs++[.ref t7],lb,lbV lb,_,_,rfl,rfl,st'.1,Zq,st'.2.1,st'.2.2.1,q2e,st'.2.2.2,.inr (.inl ⟨hs1,x',hlb'⟩),ln',.inr rfl,by omega,eR⟩
    ·refine Yv (decide_eq_true (show (2:Int)<((st+2:Nat):Int) by omega)) ⟨_,rfl,_,rfl,(sz 2),fun t7 h7=>?_⟩
     have s7:=Zt.lay (o:=.tup [lbV lb,x]) h7
     have st':=step (.ref t7) _ s7 (by rw [hlb'] at s7 ⊢; exact mkD2 (Yg.of Zq) rfl (Y1.up s7.up _ _ (Vq it) ex))
     exact ⟨_,rfl,.inl ⟨rfl,_,Yc.of (s7 _ _ hl6)⟩,_,rfl,l,_,_,rfl,rfl,s7 _ _ hl6,zlt,e - q2,by omega,q2,k,ls++[lb],es++[it],zs++[.ref t7],lb,lbV lb,_,_,rfl,rfl,st'.1,Zq,st'.2.1,st'.2.2.1,q2e,st'.2.2.2,.inr (.inr ⟨hs2,n'',hlb'⟩),ln',.inr rfl,by omega,eR⟩
 ·refine Z2 (decide_eq_false (show ¬ (p':Int)<(e:Int) by omega)) ?_
  rw [rRoom_end pl] at eR
  have eR:R0=.ok (ls,es) e:=eR.trans (by show Rs.ok (ls++[],es++[]) p'=_; rw [List.append_nil,List.append_nil,show p'=e by omega])
  rw [eR] at q
  refine ⟨(sz 3),fun lt hlt=>?_⟩
  have s5:=Zt.lay (o:=.lst [.str "row",.str "map",.str "rec"]) hlt
  refine ⟨_,rfl,_,_,rfl,rfl,lt,_,_,.str (srt st),rfl,rfl,Yc.of Zq, ?_, ?_⟩
  ·rw [show ((st+2:Nat):Int) - 2=(st:Int) by omega]
   match st,st2 with
   | 0,_=>exact L2.Z1 (j:=0) rfl
   | 1,_=>exact L2.Z1 (j:=1) rfl
   | 2,_=>exact L2.Z1 (j:=2) rfl
  have hl5:=s5 _ _ hl4
  have ar5:=Zi.up s5.up _ _ (Y8 ls es) ar
  refine ⟨_,rfl,l,zs,rfl,.inl ⟨Yc.of hl5,fun p1 hp1=>?_⟩⟩
  have s6:=Zt.lay (o:=.tup zs) hp1
  refine ⟨(sz 2),fun p2 hp2=>?_⟩
  have s7:=Zt.lay (o:=.tup [.str (srt st),.ref p1]) hp2
  refine ⟨_,rfl,(sz 2),fun p3 hp3=>?_⟩
  have s8:=Zt.lay (o:=.tup [.ref p2,.int (e:Int)]) hp3
  have s68:=s6.trans (s7.trans s8)
  refine q _ _ (s4.trans (s5.trans s68)) ⟨p3,.ref p2,rfl,Yg.of Zq,mkD2 (Yg.of (s8 _ _ Zq)) rfl ⟨p1,zs,rfl,Yg.of ((s7.trans s8) _ _ Zq),Zi.up s68.up _ _ (Y8 ls es) ar5⟩⟩
end
def sgnT : Str := " !#$&'()*+,-./0123456789:;<=>?\x40[]^_{|}~" ++ "\"" ++ "\\" ++ "`" ++ "ABCDEFGHIJKLMNOPQRSTUVWXYZabcdefghijklmnopqrstuvwxyz"
theorem sgn_sg:SgT Ug sgnT:=by
 refine ⟨by decide +kernel,fun c=>?_⟩
 have h1:∀ c:Nat,c<127->decide (c∈sgnT.cps.toList)=Ug (c:Int):=by decide +kernel
 have h2:∀ x∈sgnT.cps.toList,x<127:=by decide +kernel
 by_cases l:c<127
 ·have:=h1 c l
  constructor
  ·intro m; rw [<-this]; exact decide_eq_true m
  ·intro g; rw [g] at this; exact of_decide_eq_true this
 ·constructor
  ·intro m; exact absurd (h2 c m) l
  ·intro g
   have:=of_decide_eq_true g
   omega
section
variable {P:Program} {w:World} {K:W.Frag} {mg:Str->Option Value} {base:Heap} {f:Addr} {fd:FuncData}
theorem ok_read_at (F:Uf K "_law_read_at" "_law_read_at" s_law_read_at f fd) (bd:Vc K fd ["_law_file","_law_place","_law_end","_law_deep"] []) (mf:mg "_law_read_at" = some (.ref f)) (g_law_number_at:Fn P w K mg base 1 "_law_number_at" ["_law_file","_law_place","_law_end","_law_most"] (spNumAt K)) (g_law_signs_at:Fn P w K mg base 1 "_law_signs_at" ["_law_file","_law_place","_law_end","_law_many","_law_signs"] (spSigAt K))
  (g_room0:Fn P w K mg base 5 "_law_room_at" ["_law_file","_law_place","_law_end","_law_head","_law_deep"] (fun _ _ _ _=>False)) (g_room:∀ (n k0:Nat),Fn P w K mg base (k0+3) "_law_read_at" ["_law_file","_law_place","_law_end","_law_deep"] (spReadAt K n)->Fn P w K mg base (k0+4) "_law_room_at" ["_law_file","_law_place","_law_end","_law_head","_law_deep"] (spRoomAt K n)) :
  ∀ n,Yj P w K mg base CX0 (2 * n+6) f fd ["_law_file","_law_place","_law_end","_law_deep"] (spReadAt K n):=by
 intro n
 obtain ⟨spR,g_law_read_at,spM,g_law_room_at,hp⟩:∃ (spR:Sp) (_:Fn P w K mg base (2 * n+4) "_law_read_at" ["_law_file","_law_place","_law_end","_law_deep"] spR) (spM:Sp) (_:Fn P w K mg base (2 * n+5) "_law_room_at" ["_law_file","_law_place","_law_end","_law_head","_law_deep"] spM),∀ n',n=n'+1->spR=spReadAt K n'/\spM=spRoomAt K n':=by
  cases n with
  | zero =>
   have gr:Fn P w K mg base (2 * 0+4) "_law_read_at" ["_law_file","_law_place","_law_end","_law_deep"] (fun _ _ _ _=>False):=⟨f,fd,⟨fun vs H Q E h=>h.elim,fun A outer s H args us vs Q E _ _ _ _ h=>h.elim⟩,bd,F.kp,mf⟩
   exact ⟨_,gr,_,g_room0,fun n' h=>by cases h⟩
  | succ n =>
   have gr:Fn P w K mg base (2 * n+6) "_law_read_at" ["_law_file","_law_place","_law_end","_law_deep"] (spReadAt K n):=⟨f,fd,ok_read_at F bd mf g_law_number_at g_law_signs_at g_room0 g_room n,bd,F.kp,mf⟩
   exact ⟨_,gr,_,g_room n (2 * n+3) gr,fun n' h=>by cases h; exact ⟨rfl,rfl⟩⟩
 refine F.ok Yb (fun vs H Q E h=>?_) (fun cdv A outer s H vs Q E hr h=>?_)
 ·obtain ⟨_,a,bs,p,e,rfl,_⟩:=h
  rfl
 obtain ⟨n100,a,bs,p,e,rfl,hf,pe,el,q⟩:=h
 refine ⟨_,(@Zj _ _ _ _ _ (@Ze _ _ _ _ _ _ _ _ (@PW.pt _ _ _ (@pw_or _ _ _ _ _ _ _ (@Zm _ _ _ _ _ _ _ _ Ym (pv 1) (pv 2) (Zd _)) (@pw_or _ _ _ _ _ _ _ (@Zm _ _ _ _ _ _ _ _ op_gt (@Za _ _ _ _ _ _ _ ix_seq (pv 0) (pv 1) (fun _ _=>rfl)) Zz (Zd _)) (@pw_or1 _ _ _ _ (@Zm _ _ _ _ _ _ _ _ op_gt (pv 3) Zz (Zd _)))))) (@Zv _ _ _ (@Zc _ _ _ _ (@Zn _ _ _ _ _ (@Zw _ _ _ _ _ Ys (@Zw _ _ _ _ _ (pv 1) Zx rfl) rfl)))) Zl) (@Zj _ _ _ _ _ (@Zk _ 4 _ _ _ _ _ Yb.nd rfl (by trivial) (@Za _ _ _ _ _ _ _ ix_seq (pv 0) (pv 1) (fun _ _=>rfl)) rfl (by trivial)) (@Zj _ _ _ _ _ (@ps_asg _ _ _ _ _ _ (@Zy _ _ _ _ _ _ _ _ _ _ g_law_number_at hr.m rfl (@Zw _ _ _ _ _ (pv 0) (@Zw _ _ _ _ _ (@Zg _ _ _ _ _ _ _ _ Yx (pv 1) Zz) (@Zw _ _ _ _ _ (pv 2) (@Zw _ _ _ _ _ (@Za _ _ _ _ _ _ _ Z8 (@Yf _ _ _ _ (@Zw _ _ _ _ _ (@Zg _ _ _ _ _ _ _ _ Vl Zz (@Zg _ _ _ _ _ _ _ _ op_pow Zz Zz)) (@Zw _ _ _ _ _ Zz (@Zw _ _ _ _ _ (@Zg _ _ _ _ _ _ _ _ op_pow Zz Zz) (@Zw _ _ _ _ _ (@Zg _ _ _ _ _ _ _ _ op_pow Zz Zz) (@Zw _ _ _ _ _ (@Zg _ _ _ _ _ _ _ _ op_pow Zz Zz) (@Zw _ _ _ _ _ Zz Zx rfl) rfl) rfl) rfl) rfl) rfl)) (pv 4) (fun _ _=>rfl)) Zx rfl) rfl) rfl) rfl) (by decide) rfl rfl) (@pg_tup _ _ _ _ _ _ rfl (@Vj _ _ _ _ _ (@Zo _ 5 _ _ Yb.nd rfl (by trivial) (by trivial)) (@Vj _ _ _ _ _ (@Zo _ 6 _ _ Yb.nd rfl (by trivial) (by trivial)) pgs_nil (by trivial)) (by trivial)) (by trivial) (by trivial)) (by trivial) (by trivial) (by trivial)) (@Zj _ _ _ _ _ (@Ze _ _ _ _ _ _ _ _ (@Zm _ _ _ _ _ _ _ _ op_isN (pv 5) Ys (Zd _)) (@Zv _ _ _ (@Zc _ _ _ _ (@Zn _ _ _ _ _ (@Zw _ _ _ _ _ Ys (@Zw _ _ _ _ _ (pv 6) Zx rfl) rfl)))) Zl) (@Zj _ _ _ _ _ (@Ze _ _ _ _ _ _ _ _ (@Zm _ _ _ _ _ _ _ _ Ym (pv 4) Zz (Zd _)) (@Zv _ _ _ (@Zc _ _ _ _ (@Zn _ _ _ _ _ (@Zw _ _ _ _ _ (@Zn _ _ _ _ _ (@Zw _ _ _ _ _ Zp (@Zw _ _ _ _ _ (@Za _ _ _ _ _ _ _ Z8 (@Yf _ _ _ _ (@Zw _ _ _ _ _ (@Zg _ _ _ _ _ _ _ _ op_fdiv (pv 5) Zz) (@Zw _ _ _ _ _ (@Zg _ _ _ _ _ _ _ _ Y9 (@pe_un _ _ _ _ _ _ un_neg (@Zg _ _ _ _ _ _ _ _ op_fdiv (pv 5) Zz)) Zz) Zx rfl) rfl)) (@Zg _ _ _ _ _ _ _ _ Vi (pv 5) Zz) (fun _ _=>rfl)) Zx rfl) rfl)) (@Zw _ _ _ _ _ (pv 6) Zx rfl) rfl)))) Zl) (@Zj _ _ _ _ _ (@Ze _ _ _ _ _ _ _ _ (@Zm _ _ _ _ _ _ _ _ Ym (pv 4) Zz (Zd _)) (@Zj _ _ _ _ _ (@Zk _ 7 _ _ _ _ _ Yb.nd rfl (by trivial) (@Zg _ _ _ _ _ _ _ _ Vy (@Zg _ _ _ _ _ _ _ _ Vy (@Zg _ _ _ _ _ _ _ _ Vy Zp Zp) Zp) Zp) rfl (by trivial)) (@Zj _ _ _ _ _ (@Zk _ 7 _ _ _ _ _ Yb.nd rfl (by trivial) (@Zg _ _ _ _ _ _ _ _ Vy (pv 7) Zp) rfl (by trivial)) (@Zj _ _ _ _ _ (@ps_asg _ _ _ _ _ _ (@Zy _ _ _ _ _ _ _ _ _ _ g_law_signs_at hr.m rfl (@Zw _ _ _ _ _ (pv 0) (@Zw _ _ _ _ _ (pv 6) (@Zw _ _ _ _ _ (pv 2) (@Zw _ _ _ _ _ (pv 5) (@Zw _ _ _ _ _ (pv 7) Zx rfl) rfl) rfl) rfl) rfl) (by decide) rfl rfl) (@pg_tup _ _ _ _ _ _ rfl (@Vj _ _ _ _ _ (@Zo _ 8 _ _ Yb.nd rfl (by trivial) (by trivial)) (@Vj _ _ _ _ _ (@Zo _ 6 _ _ Yb.nd rfl (by trivial) (by trivial)) pgs_nil (by trivial)) (by trivial)) (by trivial) (by trivial)) (by trivial) (by trivial) (by trivial)) (@Zv _ _ _ (@Zc _ _ _ _ (@Zn _ _ _ _ _ (@Zw _ _ _ _ _ (@pe_ifExp _ _ _ _ _ _ _ _ (@Zm _ _ _ _ _ _ _ _ op_isN (pv 8) Ys (Zd _)) Ys (@Zn _ _ _ _ _ (@Zw _ _ _ _ _ Zp (@Zw _ _ _ _ _ (pv 8) Zx rfl) rfl))) (@Zw _ _ _ _ _ (pv 6) Zx rfl) rfl))))))) Zl) (@Zj _ _ _ _ _ (@Ze _ _ _ _ _ _ _ _ (@Zm _ _ _ _ _ _ _ _ Ym (pv 4) Zz (Zd _)) (@Zj _ _ _ _ _ (@Ze _ _ _ _ _ _ _ _ (@Zm _ _ _ _ _ _ _ _ Ym (pv 5) Zz (Zd _)) (@Zv _ _ _ (@Zc _ _ _ _ (@Zn _ _ _ _ _ (@Zw _ _ _ _ _ Ys (@Zw _ _ _ _ _ (@Zg _ _ _ _ _ _ _ _ Y9 (pv 6) Zz) Zx rfl) rfl)))) Zl) (@Zj _ _ _ _ _ (@ps_asg _ _ _ _ _ _ (@Zy _ _ _ _ _ _ _ _ _ _ g_law_read_at hr.m rfl (@Zw _ _ _ _ _ (pv 0) (@Zw _ _ _ _ _ (pv 6) (@Zw _ _ _ _ _ (pv 2) (@Zw _ _ _ _ _ (@Zg _ _ _ _ _ _ _ _ Yx (pv 3) Zz) Zx rfl) rfl) rfl) rfl) (by decide) rfl rfl) (@pg_tup _ _ _ _ _ _ rfl (@Vj _ _ _ _ _ (@Zo _ 9 _ _ Yb.nd rfl (by trivial) (by trivial)) (@Vj _ _ _ _ _ (@Zo _ 6 _ _ Yb.nd rfl (by trivial) (by trivial)) pgs_nil (by trivial)) (by trivial)) (by trivial) (by trivial)) (by trivial) (by trivial) (by trivial)) (@Zv _ _ _ (@Zc _ _ _ _ (@Zn _ _ _ _ _ (@Zw _ _ _ _ _ (@pe_ifExp _ _ _ _ _ _ _ _ (@Zm _ _ _ _ _ _ _ _ op_isN (pv 9) Ys (Zd _)) Ys (@Zn _ _ _ _ _ (@Zw _ _ _ _ _ Zp (@Zw _ _ _ _ _ (pv 5) (@Zw _ _ _ _ _ (pv 9) Zx rfl) rfl) rfl))) (@Zw _ _ _ _ _ (pv 6) Zx rfl) rfl)))))) Zl) (@Zj _ _ _ _ _ (@Ze _ _ _ _ _ _ _ _ (@Zm _ _ _ _ _ _ _ _ op_gt (pv 5) (@Zg _ _ _ _ _ _ _ _ Y9 (pv 2) (pv 6)) (Zd _)) (@Zv _ _ _ (@Zc _ _ _ _ (@Zn _ _ _ _ _ (@Zw _ _ _ _ _ Ys (@Zw _ _ _ _ _ (@Zg _ _ _ _ _ _ _ _ Y9 (pv 6) Zz) Zx rfl) rfl)))) Zl) (@Zv _ _ _ (@Zc _ _ _ _ (@Zy _ _ _ _ _ _ _ _ _ _ g_law_room_at hr.m rfl (@Zw _ _ _ _ _ (pv 0) (@Zw _ _ _ _ _ (pv 6) (@Zw _ _ _ _ _ (@Zg _ _ _ _ _ _ _ _ Yx (pv 6) (pv 5)) (@Zw _ _ _ _ _ (pv 4) (@Zw _ _ _ _ _ (pv 3) Zx rfl) rfl) rfl) rfl) rfl) (by decide) rfl rfl))))))))))), ?_⟩
 have nope:∀ (H2:Hp) (o:Nat) (i:Int),Zt H H2->i=(o:Int)->Yl bs n p e=.no o->2<=sizeLine/\∀ t,H2 t=none->Q (.ref t) (Z6 H2 t (.tup [.non,.int i])):=fun H2 o i s2 ei eq=>⟨by decide,fun t ht=>q _ _ (s2.trans (Zt.lay ht)) (by rw [eq,ei]; exact ⟨t,rfl,Yg.of Zq⟩)⟩
 refine ⟨_,rfl,_,rfl,rfl,_,rfl, ?_⟩
 rw [Yd]
 by_cases pl:p=e
 ·refine Yv (beq_iff_eq.mpr (by rw [pl])) (Yv rfl ⟨_,rfl,nope H p _ (Zt.refl H) rfl ?_⟩)
  cases n with
  | zero=>rfl
  | succ n=>unfold Yl; rw [if_neg (by omega)]
 have pl:p<e:=by omega
 have hp0:p<bs.length:=by omega
 obtain ⟨_,c0,c255⟩:=hf.by'.at hp0
 refine Z2 (beq_false_of_ne (by omega)) ⟨_,rfl,_,rfl,hf.ix hp0 rfl ⟨_,_,rfl,rfl,_,rfl, ?_⟩⟩
 by_cases b5:5<bs.getD p 0
 ·refine Yv (decide_eq_true b5) (Yv rfl ⟨_,rfl,nope H p _ (Zt.refl H) rfl ?_⟩)
  cases n with
  | zero=>rfl
  | succ n =>
   unfold Yl
   simp only
   rw [if_pos pl,if_neg (by omega),if_neg (by omega),if_neg (by omega),if_neg (by omega)]
 refine Z2 (decide_eq_false b5) ⟨_,rfl,_,_,rfl,rfl,_,rfl, ?_⟩
 by_cases n0:n=0
 ·subst n0
  exact Yv (decide_eq_true (by show (100:Int)<101 - ((0:Nat):Int); omega)) ⟨_,rfl,nope H p _ (Zt.refl H) rfl rfl⟩
 obtain ⟨n,rfl⟩:∃ n',n=n'+1:=⟨n - 1,by omega⟩
 obtain ⟨rfl,rfl⟩:=hp n rfl
 refine Z2 (decide_eq_false (by show ¬ (100:Int)<101 - ((n+1:Nat):Int); omega)) ?_
 refine ⟨_,rfl,_,rfl,hf.ix hp0 rfl ?_⟩
 have pw18:CPow 10 18:=⟨by decide,by decide,by decide⟩
 have pw6:CPow 10 6:=⟨by decide,by decide,by decide⟩
 refine ⟨_,rfl,_,rfl,_,_,rfl,rfl,_,rfl,_,_,rfl,rfl,pw18,_,_,rfl,rfl,.inl ⟨by decide,by decide⟩,_,_,rfl,rfl,pw6,_,_,rfl,rfl,pw6,_,_,rfl,rfl,pw6,(sz 6),fun lm hlm=>?_⟩
 have hL:HO.lst [V.int (2 * 10 ^ (18:Int).toNat),V.int 200,V.int (10 ^ (6:Int).toNat),V.int (10 ^ (6:Int).toNat),V.int (10 ^ (6:Int).toNat),V.int 999]=HO.lst ([2000000000000000000,200,1000000,1000000,1000000,999].map V.int):=by
  rw [show (2 * 10 ^ (18:Int).toNat:Int)=2000000000000000000 by decide +kernel,show (10 ^ (6:Int).toNat:Int)=1000000 by decide +kernel]
  rfl
 rw [hL]
 have s1:=Zt.lay (o:=.lst ([2000000000000000000,200,1000000,1000000,1000000,999].map V.int)) hlm
 have hlm1:Z6 H lm (.lst ([2000000000000000000,200,1000000,1000000,1000000,999].map V.int)) lm=some (.lst ([2000000000000000000,200,1000000,1000000,1000000,999].map V.int)):=Zq
 have R:=(show Yl bs (n+1) p e=_ from by unfold Yl; simp only; rw [if_pos pl])
 generalize bs.getD p 0=b at *
 obtain ⟨bn,rfl⟩:=Int.eq_ofNat_of_zero_le c0
 obtain ⟨mo,hat,m0,hm⟩:∃ mo:Int,atI ([2000000000000000000,200,1000000,1000000,1000000,999].map V.int) (bn:Int)=some (.int mo)/\0<=mo/\((bn=0/\mo=2000000000000000000)\/(bn=1/\mo=200)\/(bn=5/\mo=999)\/((bn=2\/bn=3\/bn=4)/\mo=1000000)):=by
  rcases (show bn=0\/bn=1\/bn=2\/bn=3\/bn=4\/bn=5 by omega) with rfl | rfl | rfl | rfl | rfl | rfl
  ·exact ⟨_,L2.Z1 (j:=0) rfl,by decide,.inl ⟨rfl,rfl⟩⟩
  ·exact ⟨_,L2.Z1 (j:=1) rfl,by decide,.inr (.inl ⟨rfl,rfl⟩)⟩
  ·exact ⟨_,L2.Z1 (j:=2) rfl,by decide,.inr (.inr (.inr ⟨.inl rfl,rfl⟩))⟩
  ·exact ⟨_,L2.Z1 (j:=3) rfl,by decide,.inr (.inr (.inr ⟨.inr (.inl rfl),rfl⟩))⟩
  ·exact ⟨_,L2.Z1 (j:=4) rfl,by decide,.inr (.inr (.inr ⟨.inr (.inr rfl),rfl⟩))⟩
  ·exact ⟨_,L2.Z1 (j:=5) rfl,by decide,.inr (.inr (.inl ⟨rfl,rfl⟩))⟩
 refine ⟨_,rfl,lm,_,_,.int mo,rfl,rfl,Yc.of hlm1,hat, ?_⟩
 refine ⟨a,bs,p+1,e,mo,rfl,hf.same s1,pl,el,m0,fun v H2 s2 tr=>?_⟩
 have s02:=s1.trans s2
 have hf2:=hf.same s02
 cases er:Z7 bs mo (p+1) e with
 | no q' =>
  rw [er] at tr
  obtain ⟨t,rfl,ht⟩:=tr
  refine ⟨t,_,rfl,ht,rfl,_,_,rfl,_,_,rfl,rfl, ?_⟩
  refine ⟨_,rfl,rfl,_,rfl,Yv (decide_eq_true rfl) ⟨_,rfl,nope H2 q' _ s02 rfl ?_⟩⟩
  rw [R]
  rcases hm with ⟨rfl,rfl⟩ | ⟨rfl,rfl⟩ | ⟨rfl,rfl⟩ | ⟨hb,rfl⟩
  ·rw [if_pos (by decide),er]
  ·rw [if_neg (by decide),if_pos (by decide)]; unfold rText; rw [er]
  ·rw [if_neg (by decide),if_neg (by decide),if_pos (by decide)]; unfold rNum; rw [er]
  ·rw [if_neg (by omega),if_neg (by omega),if_neg (by omega),if_pos (by omega),er]
 | ok va q' =>
  rw [er] at tr
  obtain ⟨p1,p2,p3⟩:=Z4 er
  have v0:=Vn hf.by' el er
  obtain ⟨t,x,rfl,ht,ex⟩:=tr
  obtain rfl:x=.int va:=ex
  refine ⟨t,_,rfl,ht,rfl,_,_,rfl,_,_,rfl,rfl, ?_⟩
  refine ⟨_,rfl,rfl,_,rfl,Z2 (decide_eq_false (by intro z; cases z)) ?_⟩
  refine ⟨_,rfl,rfl,_,rfl, ?_⟩
  rw [Yd]
  rcases hm with ⟨rfl,rfl⟩ | ⟨rfl,rfl⟩ | ⟨rfl,rfl⟩ | ⟨hb,rfl⟩
  ·refine Yv rfl ?_
   rw [if_pos (by decide),er] at R
   have vm:va % 2=0\/va % 2=1:=by omega
   refine ⟨_,rfl,_,_,rfl,rfl,⟨by decide,by decide⟩,_,rfl,_,_,rfl,rfl,⟨by decide,by decide⟩,_,rfl,_,_,rfl,rfl,(sz 2),fun l2 hl2=>?_⟩
   refine ⟨_,rfl,_,_,rfl,rfl,(by show (0:Int)<2; decide),l2,_,_,.int (unf va),rfl,rfl,Yc.of Zq, ?_,(sz 2),fun t3 ht3=>⟨_,rfl,(sz 2),fun t4 ht4=>?_⟩⟩
   ·unfold unf
    show atI [V.int (va / 2),V.int (-(va / 2) - 1)] (va % 2)=_
    rcases vm with h | h
    ·rw [h,if_pos rfl]; exact L2.Z1 (j:=0) rfl
    ·rw [h,if_neg (by decide),show -(va+1) / 2=-(va / 2) - 1 by omega]; exact L2.Z1 (j:=1) rfl
   ·have s3:=(Zt.lay (o:=.lst [.int (va / 2),.int (-(va / 2) - 1)]) hl2).trans (Zt.lay (o:=.tup [.str "whole",.int (unf va)]) ht3)
    have s4:=Zt.lay (o:=.tup [.ref t3,.int (q':Int)]) ht4
    refine q _ _ (s02.trans (s3.trans s4)) ?_
    rw [R]
    exact ⟨t4,.ref t3,rfl,Yg.of Zq,mkD2 (Yg.of (s4 _ _ Zq)) rfl rfl⟩
  ·refine Z2 rfl ⟨_,rfl,rfl,_,rfl,Yv (by decide +kernel) ?_⟩
   rw [if_neg (by decide),if_pos (by decide)] at R
   unfold rText at R
   rw [er] at R
   obtain ⟨k,rfl⟩:=Int.eq_ofNat_of_zero_le v0
   have R:Yl bs (n+1) p e=(match (match Vg bs Ug e k q' with | .no q'=>Rs.no q' | .ok xs q'=>.ok (sOf xs) q') with | .ok x q=>Rs.ok (IT.text x) q | .no q=>.no q):=R
   refine ⟨_,_,rfl,rfl,by decide +kernel,_,_,rfl,rfl,by decide +kernel,_,_,rfl,rfl,by decide +kernel, ?_⟩
   refine ⟨_,rfl,_,_,rfl,rfl,by decide +kernel, ?_⟩
   refine ⟨_,rfl,_,rfl,_,rfl,_,rfl,_,rfl,a,bs,q',e,k,sgnT,Ug,rfl,hf2,p2,el,by omega,sgn_sg,fun v H3 s3 tr3=>?_⟩
   cases es:Vg bs Ug e k q' with
   | no q2 =>
    rw [es] at tr3 R
    obtain ⟨t3,rfl,ht3⟩:=tr3
    refine ⟨t3,_,rfl,ht3,rfl,_,_,rfl,_,_,rfl,rfl, ?_⟩
    refine ⟨_,rfl,rfl,_,rfl,Yv (decide_eq_true rfl) ⟨_,rfl,nope H3 q2 _ (s02.trans s3) rfl R⟩⟩
   | ok xs q2 =>
    rw [es] at tr3 R
    obtain ⟨t3,x3,rfl,ht3,ex3⟩:=tr3
    obtain rfl:x3=.str (sOf xs):=ex3
    refine ⟨t3,_,rfl,ht3,rfl,_,_,rfl,_,_,rfl,rfl, ?_⟩
    refine ⟨_,rfl,rfl,_,rfl,Z2 (decide_eq_false (by intro z; cases z)) ⟨_,rfl,(sz 2),fun t4 ht4=>⟨_,rfl,(sz 2),fun t5 ht5=>?_⟩⟩⟩
    have s4:=Zt.lay (o:=.tup [.str "text",.str (sOf xs)]) ht4
    have s5:=Zt.lay (o:=.tup [.ref t4,.int (q2:Int)]) ht5
    refine q _ _ (s02.trans (s3.trans (s4.trans s5))) ?_
    rw [R]
    exact ⟨t5,.ref t4,rfl,Yg.of Zq,mkD2 (Yg.of (s5 _ _ Zq)) rfl rfl⟩
  ·refine Z2 rfl ⟨_,rfl,rfl,_,rfl,Z2 (by decide +kernel) ⟨_,rfl,rfl,_,rfl,Yv (by decide +kernel) ?_⟩⟩
   rw [if_neg (by decide),if_neg (by decide),if_pos (by decide)] at R
   unfold rNum at R
   rw [er] at R
   simp only at R
   refine ⟨_,rfl,rfl,_,rfl, ?_⟩
   rw [Yd]
   by_cases vz:va=0
   ·rw [if_neg (by omega)] at R
    exact Yv (beq_iff_eq.mpr vz) ⟨_,rfl,_,_,rfl,rfl,nope H2 (q' - 1) _ s02 (by show (q':Int) - 1=_; omega) R⟩
   rw [if_pos (by omega)] at R
   simp only at R
   refine Z2 (beq_false_of_ne vz) ?_
   refine ⟨_,rfl,_,rfl,_,rfl,_,rfl,_,_,rfl,rfl,by omega,a,bs,q',e,(by show [V.ref a,V.int (q':Int),V.int (e:Int),V.int (101 - ((n+1:Nat):Int)+1)]=_; rw [show 101 - ((n+1:Nat):Int)+1=101 - (n:Int) by omega]),hf2,p2,el,fun v H3 s3 tr3=>?_⟩
   cases ei:Yl bs n q' e with
   | no q2 =>
    rw [ei] at tr3 R
    obtain ⟨t3,rfl,ht3⟩:=tr3
    refine ⟨t3,_,rfl,ht3,rfl,_,_,rfl,_,_,rfl,rfl, ?_⟩
    refine ⟨_,rfl,rfl,_,rfl,Yv (decide_eq_true rfl) ⟨_,rfl,nope H3 q2 _ (s02.trans s3) rfl R⟩⟩
   | ok it q2 =>
    rw [ei] at tr3 R
    obtain ⟨t3,x3,rfl,ht3,ex3⟩:=tr3
    have ex3:Y1 K H3 (toD it) x3:=ex3
    have xn:x3≠.non:=fun z=>by
     rw [z] at ex3
     cases it <;> (obtain ⟨_,_,e,_⟩:=ex3; cases e)
    refine ⟨t3,_,rfl,ht3,rfl,_,_,rfl,_,_,rfl,rfl, ?_⟩
    refine ⟨_,rfl,rfl,_,rfl,Z2 (decide_eq_false xn) ⟨_,rfl,_,rfl,(sz 3),fun t4 ht4=>⟨_,rfl,(sz 2),fun t5 ht5=>?_⟩⟩⟩
    have s4:=Zt.lay (o:=.tup [.str "arm",.int va,x3]) ht4
    have s5:=Zt.lay (o:=.tup [.ref t4,.int (q2:Int)]) ht5
    refine q _ _ (s02.trans (s3.trans (s4.trans s5))) ?_
    rw [R]
    exact ⟨t5,.ref t4,rfl,Yg.of Zq,mkD3 (Yg.of (s5 _ _ Zq)) rfl rfl (Y1.up (s4.trans s5).up _ _ (Vq it) ex3)⟩
  ·refine Z2 (beq_false_of_ne (by omega)) ⟨_,rfl,rfl,_,rfl, ?_⟩
   rw [Yd]
   refine Z2 (beq_false_of_ne (by omega)) ⟨_,rfl,rfl,_,rfl, ?_⟩
   rw [Yd]
   refine Z2 (beq_false_of_ne (by omega)) ?_
   rw [if_neg (by omega),if_neg (by omega),if_neg (by omega),if_pos (by omega),er] at R
   simp only at R
   refine ⟨_,rfl,_,rfl,_,rfl,_,_,rfl,rfl,_,_,rfl,rfl,_,rfl, ?_⟩
   by_cases vl:va<=(e:Int) - (q':Int)
   ·rw [if_pos vl] at R
    refine Z2 (decide_eq_false (by show ¬ (e:Int) - (q':Int)<va; omega)) ?_
    obtain ⟨k,rfl⟩:=Int.eq_ofNat_of_zero_le v0
    obtain ⟨st,rfl⟩:∃ st,bn=st+2:=⟨bn - 2,by omega⟩
    rw [show (((st+2:Nat):Int) - 2).toNat=st by omega,show ((k:Nat):Int).toNat=k by omega] at R
    refine ⟨_,rfl,_,rfl,_,rfl,_,rfl,_,_,rfl,rfl,_,rfl,_,rfl,by omega,a,bs,q',q'+k,st, ?_,by omega,hf2,by omega,by omega,fun v H3 s3 tr3=>q v H3 (s02.trans s3) ?_⟩
    ·show [V.ref a,V.int (q':Int),V.int ((q':Int)+(k:Int)),V.int ((st+2:Nat):Int),V.int (101 - ((n+1:Nat):Int))]=_
     rw [show (q':Int)+(k:Int)=((q'+k:Nat):Int) by omega,show 101 - ((n+1:Nat):Int)=100 - (n:Int) by omega]
    ·rw [R]
     rw [show q'+k - q'=k by omega] at tr3
     cases ei:V2 bs (fun p e=>Yl bs n p e) st (q'+k) k (lb0 st) q' with
     | no q2=>rw [ei] at tr3; exact tr3
     | ok y q2=>rw [ei] at tr3; obtain ⟨ls,es⟩:=y; exact tr3
   ·rw [if_neg vl] at R
    exact Yv (decide_eq_true (by show (e:Int) - (q':Int)<va; omega)) ⟨_,rfl,_,_,rfl,rfl,nope H2 (q' - 1) _ s02 (by show (q':Int) - 1=_; omega) R⟩
end
abbrev s_law_unpacked:Stmt:=top 60
abbrev N_law_unpacked:List Str:=["_law_file","_law_found","e"]
theorem Vx:Zr N_law_unpacked ["_law_file"] (Zb s_law_unpacked):=by trivial
def spRead (K:W.Frag):Sp:=fun vs H Q _=>∃ (a:Addr) (bs:List Int),vs=[.ref a]/\FB K H a bs/\∀ v H',Zt H H'->TR K (vD K) H' v (rFile bs)->Q v H'
section
variable {P:Program} {w:World} {K:W.Frag} {mg:Str->Option Value} {base:Heap} {f:Addr} {fd:FuncData}
theorem ok_read (F:Uf K "_law_read" "_law_read" s_law_read f fd) (m:Bn mg) (g_law_read_at:Fn P w K mg base 206 "_law_read_at" ["_law_file","_law_place","_law_end","_law_deep"] (spReadAt K 100)):Yj P w K mg base CX0 207 f fd ["_law_file"] (spRead K):=by
 refine F.ok sc_law_read (fun vs H Q E h=>?_) (fun cdv A outer s H vs Q E hr h=>?_)
 ·obtain ⟨a,bs,rfl,_⟩:=h
  rfl
 obtain ⟨a,bs,rfl,hf,q⟩:=h
 refine ⟨_,(@Zj _ _ _ _ _ (@ps_asg _ _ _ _ _ _ (@Zy _ _ _ _ _ _ _ _ _ _ g_law_read_at hr.m rfl (Zf (pv 0) (Zf Zz (Zf (@Z9 _ _ _ _ _ _ _ _ _ Yy rfl m.len b_len (Zf (pv 0) Zx rfl) (by decide) (by decide) rfl rfl) (Zf Zz Zx rfl) rfl) rfl) rfl) (by decide) rfl rfl) (@pg_tup _ _ _ _ _ _ rfl (@Vj _ _ _ _ _ (@Zo _ 1 _ _ sc_law_read.nd rfl (by trivial) (by trivial)) (@Vj _ _ _ _ _ (@Zo _ 2 _ _ sc_law_read.nd rfl (by trivial) (by trivial)) pgs_nil (by trivial)) (by trivial)) (by trivial) (by trivial)) (by trivial) (by trivial) (by trivial)) (@Zj _ _ _ _ _ (@Ze _ _ _ _ _ _ _ _ (@PW.pt _ _ _ (@pw_and _ _ _ _ _ _ _ (@Zm _ _ _ _ _ _ _ _ op_notN (pv 1) Ys (Zd _)) (@pw_and1 _ _ _ _ (@Zm _ _ _ _ _ _ _ _ op_lt (pv 2) (@Z9 _ _ _ _ _ _ _ _ _ Yy rfl m.len b_len (Zf (pv 0) Zx rfl) (by decide) (by decide) rfl rfl) (Zd _))))) (@Zv _ _ _ (@Zc _ _ _ _ (@Zn _ _ _ _ _ (Zf Ys (Zf (pv 2) Zx rfl) rfl)))) Zl) (@Zv _ _ _ (@Zc _ _ _ _ (@Zn _ _ _ _ _ (Zf (pv 1) (Zf (pv 2) Zx rfl) rfl)))))), ?_⟩
 refine ⟨_,rfl,_,rfl,a,_,rfl,hf.sq, ?_⟩
 rw [Zu]
 refine ⟨by omega,a,bs,0,bs.length,rfl,hf,Nat.zero_le _,Nat.le_refl _,fun v H2 s2 tr=>?_⟩
 have hf2:=hf.same s2
 unfold rFile at q
 cases er:Yl bs 100 0 bs.length with
 | no q' =>
  rw [er] at tr q
  obtain ⟨t,rfl,ht⟩:=tr
  refine ⟨t,_,rfl,ht,rfl,_,_,rfl,_,_,rfl,rfl, ?_⟩
  refine ⟨_,rfl,rfl,_,rfl,Z2 rfl (Z2 rfl ?_)⟩
  refine ⟨_,rfl,_,rfl,(sz 2),fun t2 ht2=>q _ _ (s2.trans (Zt.lay ht2)) ⟨t2,rfl,Yg.of Zq⟩⟩
 | ok it q' =>
  rw [er] at tr q
  obtain ⟨t,x,rfl,ht,ex⟩:=tr
  have ex:Y1 K H2 (toD it) x:=ex
  have xn:x≠.non:=fun z=>by
   rw [z] at ex
   cases it <;> (obtain ⟨_,_,e,_⟩:=ex; cases e)
  simp only at q
  refine ⟨t,_,rfl,ht,rfl,_,_,rfl,_,_,rfl,rfl, ?_⟩
  refine ⟨_,rfl,rfl,_,rfl,Yv (by simp [xn]) ⟨_,rfl,_,rfl,a,_,rfl,hf2.sq,_,_,rfl,rfl,_,rfl, ?_⟩⟩
  rw [Zu]
  by_cases c:q'<bs.length
  ·rw [if_pos c] at q
   exact Yv (decide_eq_true (by omega)) ⟨_,rfl,(sz 2),fun t2 ht2=>q _ _ (s2.trans (Zt.lay ht2)) ⟨t2,rfl,Yg.of Zq⟩⟩
  ·rw [if_neg c] at q
   refine Z2 (decide_eq_false (by omega)) ⟨_,rfl,_,rfl,(sz 2),fun t2 ht2=>q _ _ (s2.trans (Zt.lay ht2)) ⟨t2,x,rfl,Yg.of Zq,Y1.up (Zt.lay ht2).up _ _ (Vq it) ex⟩⟩
end
structure Exs (K:W.Frag) (M C:Addr) (ds:List Addr):Prop where
 xm:XCls K M
 xc:XCls K C
 mro:W.mroIn K C (.ref M)=some true
 self:W.kitOne K (.ref C) (.ref C)=some true
 ve:W.kitOne K (.ref C) (.type "ValueError")=some true
 any:W.kitAny K (.ref C) (ds.map Value.ref)=some false
 no:V6 K C "at"
theorem b_ValueError:bootBuiltins "ValueError" = some (.type "ValueError"):=by decide +kernel
def wUn (H:Hp) (fa t0 CB:Addr) (bs:List Int):XWT:=fun σ H' _ C' od=>σ=[some (.ref fa),some (.ref t0),none]/\Zt H H'/\C'=CB/\∃ q d,rFile bs=.no q/\od=some d/\H' d=some (DHO d [("at",.int ((q:Nat):Int))])
section
variable {P:Program} {w:World} {K:W.Frag} {mg:Str->Option Value} {base:Heap} {f:Addr} {fd:FuncData} {M CB c1 c2 c3 c4 c5 c6 c7 c8 c9:Addr}
theorem ok_unp (F:Uf K "_law_unpacked" "_law_unpacked" s_law_unpacked f fd) (m:Bn mg) (mv:mg "ValueError" = none) (X:Exs K M CB [c1,c2,c3,c4,c5,c6,c7,c8,c9]) (g_unpacked:FnX P w K mg base 110 "unpacked" ["file"] (spUnpacked K CB))
  (x_MakeError:mg "MakeError" = some (.ref M)) (x_BadByte:mg "BadByte" = some (.ref CB)) (x_BadDeed:mg "BadDeed" = some (.ref c1)) (x_BadItem:mg "BadItem" = some (.ref c2)) (x_BadText:mg "BadText" = some (.ref c3))
  (x_NoFile:mg "NoFile" = some (.ref c4)) (x_NoMove:mg "NoMove" = some (.ref c5)) (x_NoPlace:mg "NoPlace" = some (.ref c6)) (x_NoRow:mg "NoRow" = some (.ref c7)) (x_NoTable:mg "NoTable" = some (.ref c8)) (x_NoValue:mg "NoValue" = some (.ref c9)) :
  Yj P w K mg base CX0 111 f fd ["_law_file"] (spRead K):=by
 have xc_MakeError:=X.xm
 refine F.ok Vx (fun vs H Q E h=>?_) (fun cdv A outer s H vs Q E hr h=>?_)
 ·obtain ⟨fa,bs,rfl,_⟩:=h
  rfl
 obtain ⟨fa,bs,rfl,hf,q⟩:=h
 let W:XWT:=fun σ H' e C' od=>∃ t0,wUn H fa t0 CB bs σ H' e C' od
 refine ⟨_,(@Zj _ _ _ _ _ (@Zk _ 1 _ _ _ _ _ Vx.nd rfl (by trivial) (@Zn _ _ _ _ _ (Zf Ys (Zf Zp Zx rfl) rfl)) rfl (by trivial)) (@Zj _ _ _ _ _ (@ps_tryX _ W 2 _ _ _ _ _ _ _ _ _ _ _ (fun pn =>  (@Zv _ _ _ (@Zk _ 1 _ _ _ _ _ Vx.nd rfl (by trivial) (@Zn _ _ _ _ _ (Zf (@Vt _ _ _ _ _ _ _ _ _ _ _ g_unpacked xw_tx hr.m rfl (Zf (pv 0) Zx rfl) (by decide) rfl rfl) (Zf (@Z9 _ _ _ _ _ _ _ _ _ Yy rfl m.len b_len (Zf (pv 0) Zx rfl) (by decide) (by decide) rfl rfl) Zx rfl) rfl)) rfl (by trivial)))) (fun e =>  (@Zj _ _ _ _ _ (@Ze _ _ _ _ _ _ _ _ (@PW.pt _ _ _ (@pw_and _ _ _ _ _ _ _ (@pt_val _ _ _ (@Z9 _ _ _ _ _ _ _ _ _ call_isiX rfl m.isinstance Uc (Zf (pv 2) (Zf (@Vw _ _ _ _ rfl x_BadByte (by decide)) Zx rfl) rfl) (by decide) (by decide) rfl rfl) (by intro _; rfl)) (@pw_and _ _ _ _ _ _ _ (@pt_val _ _ _ (@Z9 _ _ _ _ _ _ _ _ _ call_isiXB rfl m.isinstance Uc (Zf (pv 2) (Zf (@pe_bltnT _ _ _ _ rfl mv b_ValueError (by decide) (by decide)) Zx rfl) rfl) (by decide) (by decide) rfl rfl) (by intro _; rfl)) (@pw_and1 _ _ _ _ (@pt_not _ _ _ _ (@pt_val _ _ _ (@Z9 _ _ _ _ _ _ _ _ _ call_isiTh rfl m.isinstance Uc (Zf (@pe_fldX _ _ _ _ _ (pv 2) rfl) (Zf (@pe_bltnT _ _ _ _ rfl m.bool b_bool (by decide) (by decide)) Zx rfl) rfl) (by decide) (by decide) rfl rfl) (by intro _; rfl))))))) (@Zv _ _ _ (@Zk _ 1 _ _ _ _ _ Vx.nd rfl (by trivial) (@Zn _ _ _ _ _ (Zf Ys (Zf (@pe_fldX _ _ _ _ _ (pv 2) rfl) Zx rfl) rfl)) rfl (by trivial))) Zl) (@Zv _ _ _ (@Ze _ _ _ _ _ _ _ _ (@pt_val _ _ _ (@Z9 _ _ _ _ _ _ _ _ _ call_isiXT rfl m.isinstance Uc (Zf (pv 2) (Zf (@Zn _ _ _ _ _ (Zf (@Vw _ _ _ _ rfl x_BadDeed (by decide)) (Zf (@Vw _ _ _ _ rfl x_BadItem (by decide)) (Zf (@Vw _ _ _ _ rfl x_BadText (by decide)) (Zf (@Vw _ _ _ _ rfl x_NoFile (by decide)) (Zf (@Vw _ _ _ _ rfl x_NoMove (by decide)) (Zf (@Vw _ _ _ _ rfl x_NoPlace (by decide)) (Zf (@Vw _ _ _ _ rfl x_NoRow (by decide)) (Zf (@Vw _ _ _ _ rfl x_NoTable (by decide)) (Zf (@Vw _ _ _ _ rfl x_NoValue (by decide)) Zx rfl) rfl) rfl) rfl) rfl) rfl) rfl) rfl) rfl)) Zx rfl) rfl) (by decide) (by decide) rfl rfl) (by intro _; rfl)) (@Zv _ _ _ (@Zk _ 1 _ _ _ _ _ Vx.nd rfl (by trivial) (@Zn _ _ _ _ _ (Zf Ys (Zf Zp Zx rfl) rfl)) rfl (by trivial))) Zl)))) rfl rfl rfl x_MakeError xc_MakeError xc_MakeError.here Vx.nd rfl rfl (by decide)) (@Zv _ _ _ (@Zc _ _ _ _ (pv 1))))), ?_⟩
 refine ⟨(sz 2),fun t0 ht0=>?_⟩
 have s0:=Zt.lay (o:=.tup [.non,.str "other"]) ht0
 refine ⟨fun pn=>?_, ?_⟩
 ·have hf0:=hf.same s0
  refine ⟨_,rfl,fa,bs,rfl,hf0.sq,hf.by',fun it q' eq v H2 s2 iv=>?_,fun q' eq d H' s' hd a' C' ec _=>?_⟩
  ·refine ⟨_,rfl,fa,_,rfl,(hf0.same s2).sq,(sz 2),fun t1 ht1=>?_⟩
   rw [Zu] at *
   refine ⟨_,rfl,q _ _ (s0.trans (s2.trans (Zt.lay ht1))) ?_⟩
   rw [eq,(rFile_at hf.by' eq).2.2.2]
   exact ⟨t1,v,rfl,Yg.of (by rw [Zq]),Y1.up (Zt.lay ht1).up _ _ (Vq it) iv⟩
  ·cases ec
   exact ⟨t0,rfl,s0.trans s',rfl,q',d,eq,rfl,hd⟩
 ·rintro σ' H1 e C' od ee ⟨t0',rfl,s1,rfl,q',d,eq,rfl,hd⟩
  have ix:IsX H1 e C':=⟨some d,false,ee,fun d' e'=>by cases e'; exact ⟨_,hd⟩⟩
  refine ⟨X.mro, ?_⟩
  refine ⟨_,rfl,e,C',C',true,rfl,ix,X.xc,X.self,true,rfl,iteT ?_⟩
  refine ⟨_,rfl,e,C',"ValueError",true,rfl,ix,X.xc,X.ve,true,rfl,iteT ?_⟩
  refine ⟨_,rfl,e,C',d,false,_,.int (q':Int),rfl,ee,hd,X.xc,X.no,rfl,.int (q':Int),"bool",.int (q':Int),rfl,rfl,by decide,false,rfl,iteT ?_⟩
  refine ⟨_,rfl,e,C',d,false,_,.int (q':Int),rfl,ee,hd,X.xc,X.no,rfl,(sz 2),fun t2 ht2=>?_⟩
  have s2:=Zt.lay (o:=.tup [.non,.int (q':Int)]) ht2
  refine ⟨_,rfl,(sz 9),fun t ht=>?_⟩
  have st':=Zt.lay (o:=.tup (([c1,c2,c3,c4,c5,c6,c7,c8,c9]:List Addr).map V.ref)) ht
  have s2t:=s2.trans st'
  refine ⟨e,C',t,[c1,c2,c3,c4,c5,c6,c7,c8,c9],false,rfl,Zq,⟨some d,false,s2t _ _ ee,fun d' e'=>by cases e'; exact ⟨_,s2t _ _ hd⟩⟩,X.xc,X.any,false,rfl,iteF ⟨_,rfl, ?_⟩⟩
  refine q _ _ (s1.trans s2t) ?_
  rw [eq]
  exact ⟨t2,rfl,Yg.of (st' _ _ Zq)⟩
end
abbrev s_law_right:Stmt:=top 61
abbrev N_law_right:List Str:=["_law_some","_law_handed","_law_due","_law_found"]
theorem sc_law_right:Zr N_law_right ["_law_some"] (Zb s_law_right):=by trivial
def spRight (K:W.Frag):Sp:=fun vs H Q _=>∃ (a:Addr) (bs:List Int),vs=[.ref a]/\FB K H a bs/\∀ H',Zt H H'->Q (.bl true) H'
def resD:Rs IT->D
 | .ok it q=>.tup [toD it,.int (q:Int)]
 | .no q=>.tup [.non,.int (q:Int)]
theorem TR.isD {K:W.Frag} {H:Hp} {v:V} {r:Rs IT} (h:TR K (vD K) H v r):Y1 K H (resD r) v:=by
 cases r with
 | ok it q=>obtain ⟨p,x,rfl,hp,hx⟩:=h; exact mkD2 hp hx rfl
 | no q=>obtain ⟨p,rfl,hp⟩:=h; exact mkD2 hp rfl rfl
theorem resD_noL (r:Rs IT):noL (resD r)=true:=by
 cases r with
 | ok it q=>simp only [resD,noL,noLs,Bool.and_true]; exact Vq it
 | no q=>rfl
section
variable {K:W.Frag}
theorem areInts {H:Hp}:∀ xs:List Int,Zi K H (xs.map D.int) (bv xs)
 | []=>rfl
 | x::xs=>⟨.int x,bv xs,rfl,rfl,areInts xs⟩
theorem dpInts:∀ xs:List Int,dpDs (xs.map D.int)=0
 | []=>rfl
 | x::xs=>by
  have:=dpInts xs
  simp only [List.map_cons,dpDs,dpD,this]
  rfl
mutual
theorem dp_toD:∀ it:IT,dpD (toD it)<=3 * dpI it
 | .whole _=>by simp only [toD,dpD,dpDs,dpI]; omega
 | .text _=>by simp only [toD,dpD,dpDs,dpI]; omega
 | .arm n e=>by
  have:=dp_toD e
  simp only [toD,dpD,dpDs,dpI]; omega
 | .lst s ls es=>by
  have:=dp_prts ls es
  simp only [toD,dpD,dpDs,dpI]; omega
theorem dp_prts:∀ (ls:List Lb) (es:List IT),dpDs (Y5 ls (toDs es))<=3 * dpIs es+1
 | [],_=>by simp [Y5,dpDs]
 | _::_,[]=>by simp [toDs,Y5,dpDs]
 | l::ls,e::es=>by
  have h1:=dp_toD e
  have h2:=dp_prts ls es
  cases l <;> simp only [toDs,Y5,prtD,dpD,dpDs,dpIs] <;> omega
end
end
theorem dp_res {bs:List Int} (B:Byt bs):dpD (resD (rFile bs))<=400:=by
 cases er:rFile bs with
 | no q=>simp only [resD,dpD,dpDs]; omega
 | ok it q =>
  have:=(rFile_at B er).2.2.1
  have:=dp_toD it
  simp only [resD,dpD,dpDs]
  omega
section
variable {P:Program} {w:World} {K:W.Frag} {mg:Str->Option Value} {base:Heap} {f:Addr} {fd:FuncData}
theorem ok_right (F:Uf K "_law_right" "_law_right" s_law_right f fd) (m:Bn mg) (g_law_read:Fn P w K mg base 207 "_law_read" ["_law_file"] (spRead K)) (g_law_unpacked:Fn P w K mg base 111 "_law_unpacked" ["_law_file"] (spRead K)) (g_packed:Fn P w K mg base 106 "packed" ["item"] (spPacked K 100)):Yj P w K mg base CX0 208 f fd ["_law_some"] (spRight K):=by
 refine F.ok sc_law_right (fun vs H Q E h=>?_) (fun cdv A outer s H vs Q E hr h=>?_)
 ·obtain ⟨a,bs,rfl,_⟩:=h
  rfl
 obtain ⟨a,bs,rfl,hf,q⟩:=h
 refine ⟨_,(@Zj _ _ _ _ _ (@Zk _ 1 _ _ _ _ _ sc_law_right.nd rfl (by trivial) (@Yn _ _ _ _ _ _ _ _ _ call_list_of rfl m.list b_list (Zf (pv 0) Zx rfl) (by trivial) (by trivial) (by trivial) (by trivial)) rfl (by trivial)) (@Zj _ _ _ _ _ (@Zk _ 2 _ _ _ _ _ sc_law_right.nd rfl (by trivial) (@Zy _ _ _ _ _ _ _ _ _ _ g_law_read hr.m rfl (Zf (pv 1) Zx rfl) (by decide) rfl rfl) rfl (by trivial)) (@Zj _ _ _ _ _ (@Zk _ 3 _ _ _ _ _ sc_law_right.nd rfl (by trivial) (@Zy _ _ _ _ _ _ _ _ _ _ g_law_unpacked hr.m rfl (Zf (pv 1) Zx rfl) (by decide) rfl rfl) rfl (by trivial)) (@Zj _ _ _ _ _ (@Ze _ _ _ _ _ _ _ _ (@PW.pt _ _ _ (@pw_or _ _ _ _ _ _ _ (@Zm _ _ _ _ _ _ _ _ op_neD (pv 3) (pv 2) (Zd _)) (@pw_or _ _ _ _ _ _ _ (@Zm _ _ _ _ _ _ _ _ op_neD (pv 1) (@Yn _ _ _ _ _ _ _ _ _ call_list_of rfl m.list b_list (Zf (pv 0) Zx rfl) (by trivial) (by trivial) (by trivial) (by trivial)) (Zd _)) (@pw_or1 _ _ _ _ (@Zm _ _ _ _ _ _ _ _ op_neD (@Zy _ _ _ _ _ _ _ _ _ _ g_law_unpacked hr.m rfl (Zf (@Yn _ _ _ _ _ _ _ _ _ call_tuple_any rfl m.tuple b_tuple (Zf (pv 0) Zx rfl) (by trivial) (by trivial) (by trivial) (by trivial)) Zx rfl) (by decide) rfl rfl) (pv 2) (Zd _)))))) (@Zv _ _ _ (@Zc _ _ _ _ pe_bl)) Zl) (@Zv _ _ _ (@Zc _ _ _ _ (@pe_or _ _ _ _ _ _ _ (@Vh _ _ _ _ _ _ _ _ op_isN (@Za _ _ _ _ _ _ _ Yh (pv 2) Zz (fun _ _=>rfl)) Ys (Zd _)) (@pe_one _ _ _ _ _ (@Vh _ _ _ _ _ _ _ _ op_eqD (@Zy _ _ _ _ _ _ _ _ _ _ g_packed hr.m rfl (Zf (@Za _ _ _ _ _ _ _ Yh (pv 3) Zz (fun _ _=>rfl)) Zx rfl) (by decide) rfl rfl) (@Yn _ _ _ _ _ _ _ _ _ call_tuple_any rfl m.tuple b_tuple (Zf (pv 0) Zx rfl) (by trivial) (by trivial) (by trivial) (by trivial)) (Zd _)))))))))), ?_⟩
 have un:∀ n,n<=1000->(A.deeper (envOfC "_law_right" (Zb s_law_right) s.heap.objs.size f cdv)).units+n<cLine:=fun n h=>by
  have:=hr.un
  omega
 have dr:=dp_res hf.by'
 refine ⟨_,rfl,a,_,rfl,hf.sq,fun hd hhd=>?_⟩
 have s1:=Zt.lay (o:=.lst (bv bs)) hhd
 have fb1:FB K (Z6 H hd (.lst (bv bs))) hd bs:=⟨.inl (Yc.of Zq),hf.by',hf.ln⟩
 have hl1:Z6 H hd (.lst (bv bs)) hd=some (.lst (bv bs)):=Zq
 generalize Z6 H hd (.lst (bv bs))=H1 at s1 fb1 hl1
 refine ⟨_,rfl,hd,bs,rfl,fb1,fun due H2 s2 tr2=>?_⟩
 refine ⟨_,rfl,hd,bs,rfl,fb1.same s2,fun found H3 s3 tr3=>?_⟩
 have nR:=resD_noL (rFile bs)
 have i2:=tr2.isD
 have i3:=tr3.isD
 have i23:=Y1.up s3.up _ _ nR i2
 refine ⟨_,rfl,_,rfl,_,_,i3,i23,un _ (by omega),_,rfl,Z2 (by rw [eqD_refl]; rfl) ?_⟩
 have s13:=s1.trans (s2.trans s3)
 refine ⟨_,rfl,_,rfl,a,_,rfl,(hf.same s13).sq,fun l4 h4=>?_⟩
 have s4:=Zt.lay (o:=.lst (bv bs)) h4
 have dI:dpD (.lst (bs.map D.int))<=5:=by simp only [dpD]; rw [dpInts]; omega
 refine ⟨.lst (bs.map D.int),.lst (bs.map D.int),⟨hd,_,rfl,Yc.of ((s2.trans (s3.trans s4)) _ _ hl1),areInts bs⟩,⟨l4,_,rfl,Yc.of Zq,areInts bs⟩,un _ (by omega),_,rfl,Z2 (by rw [eqD_refl]; rfl) ?_⟩
 have s04:=s13.trans s4
 have hf4:=hf.same s04
 generalize Z6 H3 l4 (.lst (bv bs))=H4 at s4 s04 hf4
 refine ⟨_,rfl,a,_,rfl,hf4.sq,fun t5 H5 s5 h5=>?_⟩
 refine ⟨t5,bs,rfl,⟨.inr h5,hf.by',hf.ln⟩,fun v6 H6 s6 tr6=>?_⟩
 have s36:=s4.trans (s5.trans s6)
 have s06:=s04.trans (s5.trans s6)
 refine ⟨_,rfl,_,_,tr6.isD,Y1.up s36.up _ _ nR i23,un _ (by omega),_,rfl,Z2 (by rw [eqD_refl]; rfl) ?_⟩
 cases er:rFile bs with
 | no q' =>
  rw [er] at tr2
  obtain ⟨pd,rfl,hpd⟩:=tr2
  exact ⟨_,rfl,pd,_,_,_,rfl,rfl,(s3.trans s36).up _ _ hpd,(show atI [V.non,V.int (q':Int)] ((0:Nat):Int)=_ from L2.Z1 (j:=0) rfl),rfl,_,rfl,Yv (decide_eq_true rfl) (q H6 s06)⟩
 | ok it q' =>
  rw [er] at tr2 tr3
  obtain ⟨pd,x,rfl,hpd,hx⟩:=tr2
  obtain ⟨pf,xf,rfl,hpf,hxf⟩:=tr3
  have hx:Y1 K H2 (toD it) x:=hx
  have hxf:Y1 K H3 (toD it) xf:=hxf
  have xn:x≠.non:=fun z=>by
   rw [z] at hx
   cases it <;> (obtain ⟨_,_,e,_⟩:=hx; cases e)
  obtain ⟨eb,gd,dp,_⟩:=rFile_at hf.by' er
  refine ⟨_,rfl,pd,_,_,_,rfl,rfl,(s3.trans s36).up _ _ hpd,(show atI [x,V.int (q':Int)] ((0:Nat):Int)=_ from L2.Z1 (j:=0) rfl),rfl,_,rfl,Z2 (decide_eq_false xn) ?_⟩
  refine ⟨_,rfl,pf,_,_,_,rfl,rfl,s36.up _ _ hpf,(show atI [xf,V.int (q':Int)] ((0:Nat):Int)=_ from L2.Z1 (j:=0) rfl),xf,it,rfl,Y1.up s36.up _ _ (Vq it) hxf,gd,by omega,by rw [<-eb]; exact hf.ln,fun r7 H7 s7 h7=>?_⟩
  refine ⟨_,rfl,a,_,rfl,(hf.same (s06.trans s7)).sq,fun t8 H8 s8 h8=>?_⟩
  rw [<-eb] at h7
  have dT:dpD (.tup (bs.map D.int))<=5:=by simp only [dpD]; rw [dpInts]; omega
  refine ⟨.tup (bs.map D.int),.tup (bs.map D.int),⟨r7,_,rfl,Yg.of (s8 _ _ h7),areInts bs⟩,⟨t8,_,rfl,h8,areInts bs⟩,un _ (by omega), ?_⟩
  rw [eqD_refl]
  exact q H8 (s06.trans (s7.trans s8))
end
abbrev s_law_within:Stmt:=top 62
abbrev N_law_within:List Str:=["_law_file","_law_word","_law_many","_law_k","_law_key_here"]
theorem V8:Zr N_law_within ["_law_file","_law_word","_law_many"] (Zb s_law_within):=by trivial
def TB (K:W.Frag) (H:Hp) (v:V) (n:Nat):Prop:=∃ (p:Addr) (bs:List Int),v=.ref p/\Yg K H p (bv bs)/\Byt bs/\bs.length<=n
theorem Ut {a b:List Int} (h1:Byt a) (h2:Byt b):Byt (a++b):=fun x m=>by
 rcases List.mem_append.mp m with m | m
 ·exact h1 x m
 ·exact h2 x m
def spWithin (K:W.Frag):Sp:=fun vs H Q _=>∃ (v:V) (word many:Int),vs=[v,.int word,.int many]/\TB K H v 2/\0<=word/\word<=3/\0<=many/\many<=101/\∀ v' H',Zt H H'->TB K H' v' 5000->Q v' H'
section
variable {P:Program} {w:World} {K:W.Frag} {mg:Str->Option Value} {base:Heap} {f:Addr} {fd:FuncData}
theorem ok_within (F:Uf K "_law_within" "_law_within" s_law_within f fd) (m:Bn mg) (g_law_long:Fn P w K mg base 1 "_law_long" ["_law_n"] spLong):Yj P w K mg base CX0 2 f fd ["_law_file","_law_word","_law_many"] (spWithin K):=by
 refine F.ok V8 (fun vs H Q E h=>?_) (fun cdv A outer s H vs Q E hr h=>?_)
 ·obtain ⟨v,word,many,rfl,_⟩:=h
  rfl
 obtain ⟨v,word,many,rfl,tb,w0,w3,n0,n1,q⟩:=h
 obtain ⟨p,bs0,rfl,hp,b0,l0⟩:=tb
 have hz:∀ n:Nat,n<=1000000->n<=sizeLine:=fun n h=>by have:=sizeLine_eq; omega
 refine ⟨_,(@Zj _ _ _ _ _ (@ps_for _ _ _ _ _ _ _ _ PassesOwn.never rfl (@Yi _ _ _ _ _ _ rfl m.range (Zf (pv 2) Zx rfl) (by trivial)) (@Zo _ 3 _ _ V8.nd rfl (by trivial) (by trivial)) (@Zv _ _ _ (@Ze _ _ _ _ _ _ _ _ (@Zm _ _ _ _ _ _ _ _ Ym (pv 1) Zz (Zd _)) (@Zv _ _ _ (@Zk _ 0 _ _ _ _ _ V8.nd rfl (by trivial) (@Zg _ _ _ _ _ _ _ _ Vf (@Zn _ _ _ _ _ (Zf Zz (Zf Zz Zx rfl) rfl)) (pv 0)) rfl (by trivial))) (@Zj _ _ _ _ _ (@Zk _ 4 _ _ _ _ _ V8.nd rfl (by trivial) (@Za _ _ _ _ _ _ _ Z8 (@Yf _ _ _ _ (Zf (@Zn _ _ _ _ _ Zx) (Zf (@Zn _ _ _ _ _ (Zf Zz (Zf Zz Zx rfl) rfl)) (Zf (@Zn _ _ _ _ _ (Zf Zz Zx rfl)) Zx rfl) rfl) rfl)) (@Zg _ _ _ _ _ _ _ _ Y9 (pv 1) Zz) (fun _ _=>rfl)) rfl (by trivial)) (@Zv _ _ _ (@Zk _ 0 _ _ _ _ _ V8.nd rfl (by trivial) (@Zg _ _ _ _ _ _ _ _ Vf (@Zg _ _ _ _ _ _ _ _ Vf (@Zg _ _ _ _ _ _ _ _ Vf (@Zn _ _ _ _ _ (Zf (@Zg _ _ _ _ _ _ _ _ Yx (pv 1) Zz) Zx rfl)) (@Zy _ _ _ _ _ _ _ _ _ _ g_law_long hr.m rfl (Zf (@Zg _ _ _ _ _ _ _ _ Yx (@Z9 _ _ _ _ _ _ _ _ _ Yy rfl m.len b_len (Zf (pv 4) Zx rfl) (by decide) (by decide) rfl rfl) (@Z9 _ _ _ _ _ _ _ _ _ Yy rfl m.len b_len (Zf (pv 0) Zx rfl) (by decide) (by decide) rfl rfl)) Zx rfl) (by decide) rfl rfl)) (pv 4)) (pv 0)) rfl (by trivial)))))) (by trivial)) (@Zv _ _ _ (@Zc _ _ _ _ (pv 0)))), ?_⟩
 refine ⟨_,rfl,_,rfl,by omega,by omega,V1 (n:=many.toNat) (fun i σ H2=>∃ (p:Addr) (bs:List Int) (o3 o4:Option V),σ=[some (.ref p),some (.int word),some (.int many),o3,o4]/\Zt H H2/\Yg K H2 p (bv bs)/\Byt bs/\bs.length<=2+30 * i) ⟨p,bs0,_,_,rfl,Zt.refl H,hp,b0,by omega⟩ ?_ ?_⟩
 ·rintro i σ H2 hi ⟨p,bs,o3,o4,rfl,s2,hp2,b2,l2⟩
  have i101:i<101:=by omega
  refine ⟨_,rfl,rfl,_,rfl, ?_⟩
  rw [Yd]
  by_cases wz:word=0
  ·refine Yv (beq_iff_eq.mpr wz) ⟨(sz 2),fun t3 h3=>⟨_,rfl,t3,p,_,_,rfl,rfl,Yg.of Zq,up_put h3 _ _ hp2,hz _ (by rw [Zu]; show 2+bs.length<=_; omega),fun r4 H4 s4 h4=>?_⟩⟩
   refine ⟨r4,[5,1]++bs,_,_,rfl,s2.trans ((Zt.lay h3).trans s4),by rw [Uv]; exact h4,Ut (by unfold Byt; decide) b2, ?_⟩
   rw [List.length_append]
   show 2+bs.length<=_
   omega
  ·refine Z2 (beq_false_of_ne wz) ?_
   refine ⟨(sz 0),fun t3 h3=>⟨(sz 2),fun t4 h4=>⟨(sz 1),fun t5 h5=>⟨(sz 3),fun l6 h6=>?_⟩⟩⟩⟩
   have c6:=Zt.lay (o:=.lst [.ref t3,.ref t4,.ref t5]) h6
   have c5:=(Zt.lay (o:=.tup [.int 9]) h5).trans c6
   have c4:=(Zt.lay (o:=.tup [.int 1,.int 97]) h4).trans c5
   have c3:=(Zt.lay (o:=.tup []) h3).trans c4
   have v3:=c4 _ _ Zq
   have v4:=c5 _ _ Zq
   have v5:=c6 _ _ Zq
   have v6:(Z6 (Z6 (Z6 (Z6 H2 t3 (.tup [])) t4 (.tup [.int 1,.int 97])) t5 (.tup [.int 9])) l6 (.lst [.ref t3,.ref t4,.ref t5])) l6=some (.lst [.ref t3,.ref t4,.ref t5]):=Zq
   generalize (Z6 (Z6 (Z6 (Z6 H2 t3 (.tup [])) t4 (.tup [.int 1,.int 97])) t5 (.tup [.int 9])) l6 (.lst [.ref t3,.ref t4,.ref t5]))=H6 at c3 v3 v4 v5 v6
   obtain ⟨tk,kb,hat,hk,bk,lk⟩:∃ (tk:Addr) (kb:List Int),atI [V.ref t3,V.ref t4,V.ref t5] (word - 1)=some (.ref tk)/\Yg K H6 tk (bv kb)/\Byt kb/\kb.length<=2:=by
    rcases (show word=1\/word=2\/word=3 by omega) with rfl | rfl | rfl
    ·exact ⟨t3,[],L2.Z1 (j:=0) rfl,Yg.of v3,(by unfold Byt; decide),by simp⟩
    ·exact ⟨t4,[1,97],L2.Z1 (j:=1) rfl,Yg.of v4,(by unfold Byt; decide),by simp⟩
    ·exact ⟨t5,[9],L2.Z1 (j:=2) rfl,Yg.of v5,(by unfold Byt; decide),by simp⟩
   have hp6:=c3.up (K:=K) _ _ hp2
   refine ⟨_,rfl,_,_,rfl,rfl,l6,_,_,.ref tk,rfl,rfl,Yc.of v6,hat, ?_⟩
   refine ⟨_,rfl,_,_,rfl,rfl,(sz 1),fun t7 h7=>?_⟩
   have s7:=Zt.lay (o:=.tup [.int (word+1)]) h7
   have hk7:=s7.up (K:=K) _ _ hk
   have hp7:=s7.up (K:=K) _ _ hp6
   refine ⟨_,rfl,tk,_,rfl,.inr hk7,_,rfl,p,_,rfl,.inr hp7,_,_,rfl,rfl, ?_⟩
   have lb:=Uy (((bv kb).length:Int)+((bv bs).length:Int))
   have lB:=Lg_bytes (n:=((bv kb).length:Int)+((bv bs).length:Int)) (by omega) (by rw [Zu,Zu]; omega)
   refine ⟨_,rfl,by show (0:Int)<=((bv kb).length:Int)+((bv bs).length:Int); omega,lt20 (by show ((bv kb).length:Int)+((bv bs).length:Int)<=_; rw [Zu,Zu]; omega),fun r8 H8 s8 h8=>?_⟩
   have h8:H8 r8=some (.tup (bv (Lg (((bv kb).length:Int)+((bv bs).length:Int))))):=h8
   generalize Lg (((bv kb).length:Int)+((bv bs).length:Int))=lg at lb lB h8
   refine ⟨t7,r8,_,_,rfl,rfl,Yg.of (s8 _ _ Zq),Yg.of h8,hz _ (by rw [Zu]; show 1+lg.length<=_; omega),fun r9 H9 s9 h9=>?_⟩
   have s79:=s8.trans s9
   refine ⟨_,rfl,r9,tk,_,_,rfl,rfl,h9,s79.up _ _ hk7,hz _ (by rw [List.length_append,Zu,Zu]; show 1+lg.length+kb.length<=_; omega),fun r10 H10 s10 h10=>?_⟩
   refine ⟨_,rfl,r10,p,_,_,rfl,rfl,h10,(s79.trans s10).up _ _ hp7,hz _ (by rw [List.length_append,List.length_append,Zu,Zu,Zu]; show 1+lg.length+kb.length+bs.length<=_; omega),fun r11 H11 s11 h11=>?_⟩
   refine ⟨r11,[word+1]++lg++kb++bs,_,_,rfl,s2.trans (c3.trans (s7.trans (s79.trans (s10.trans s11)))),by rw [Uv,Uv,Uv]; exact h11,Ut (Ut (Ut ?_ lB) bk) b2, ?_⟩
   ·intro x mx
    rw [List.mem_singleton.mp mx]
    omega
   ·rw [List.length_append,List.length_append,List.length_append]
    show 1+lg.length+kb.length+bs.length<=_
    omega
 ·rintro σ H2 ⟨p,bs,o3,o4,rfl,s2,hp2,b2,l2⟩
  exact ⟨_,rfl,q _ _ s2 ⟨p,bs,rfl,hp2,b2,by omega⟩⟩
end
abbrev s_law_far:Stmt:=top 63
abbrev N_law_far:List Str:=["_law_feed_here","_law_some"]
theorem sc_law_far:Zr N_law_far ["_law_feed_here"] (Zb s_law_far):=by trivial
theorem TB.same {K:W.Frag} {H H':Hp} {v:V} {n:Nat} (t:TB K H v n) (s:Zt H H'):TB K H' v n:=by
 obtain ⟨p,bs,rfl,h,b,l⟩:=t
 exact ⟨p,bs,rfl,s.up _ _ h,b,l⟩
def AN (K:W.Frag) (H:Hp) (n:Nat) (vs:List V):Prop:=∀ v∈vs,TB K H v n
theorem AN.same {K:W.Frag} {H H':Hp} {n:Nat} {vs:List V} (t:AN K H n vs) (s:Zt H H'):AN K H' n vs:=fun v m=>(t v m).same s
theorem AN.app {K:W.Frag} {H:Hp} {n:Nat} {vs us:List V} (a:AN K H n vs) (b:AN K H n us):AN K H n (vs++us):=fun v m=>by
 rcases List.mem_append.mp m with m | m
 ·exact a v m
 ·exact b v m
def bT:List Int->TA
 | []=>tNil
 | b::bs=>tCons (tC (.int b)) (bT bs)
def bTs:List (List Int)->TA
 | []=>tNil
 | b::bs=>tCons (tTup (bT b)) (bTs bs)
theorem bT_ok:∀ (bs:List Int) {σ:L2.St} {H:Hp} {Q:List V->Hp->Prop},Q (bv bs) H->bT bs σ H Q
 | [],_,_,_,q=>q
 | _::bs,_,_,_,q=>bT_ok bs q
theorem bTs_ok {K:W.Frag} {n:Nat} (hn:n<=1000):∀ (D:List (List Int)) {σ:L2.St} {H:Hp} {Q:List V->Hp->Prop},(∀ b∈D,Byt b/\b.length<=n)->(∀ vs H',Zt H H'->AN K H' n vs->vs.length=D.length->Q vs H')->bTs D σ H Q
 | [],_,H,_,_,q=>q [] H (Zt.refl H) (fun _ m=>(List.not_mem_nil m).elim) rfl
 | b::D,σ,H,Q,h,q=>by
  obtain ⟨h1,h2⟩:=h b List.mem_cons_self
  refine bT_ok b ⟨Nat.le_trans (show (bv b).length<=1000 by rw [Zu]; omega) (by decide),fun p hp=>bTs_ok (K:=K) hn D (fun c m=>h c (List.mem_cons_of_mem _ m)) fun vs H' s' a l=>q _ H' ((Zt.lay hp).trans s') (fun v m=>?_) (congrArg (·+1) l)⟩
  rcases List.mem_cons.mp m with rfl | m
  ·exact ⟨p,b,rfl,Yg.of (s' _ _ Zq),h1,h2⟩
  ·exact a v m
theorem bL_ok {K:W.Frag} {n:Nat} (D:List (List Int)) {σ:L2.St} {H:Hp} {Q:VK} (h:∀ b∈D,Byt b/\b.length<=n) (hn:n<=1000) (hD:D.length<=1000) (q:∀ l vs H',Zt H H'->H' l=some (.lst vs)->AN K H' n vs->vs.length=D.length->Q (.ref l) H'):tLst (bTs D) σ H Q :=
 bTs_ok hn D h fun vs H1 s1 a l=>⟨Nat.le_trans (show vs.length<=1000 by omega) (by decide),fun p hp=>q p vs _ (s1.trans (Zt.lay hp)) Zq (a.same (Zt.lay hp)) l⟩
def spFar (K:W.Frag):Sp:=fun vs H Q _=>∃ l:Addr,vs=[.ref l]/\Feed H l/\∀ v H',Y7 l H H'->TB K H' v 10->Q v H'
section
variable {P:Program} {w:World} {K:W.Frag} {mg:Str->Option Value} {base:Heap} {f:Addr} {fd:FuncData}
theorem ok_far (F:Uf K "_law_far" "_law_far" s_law_far f fd) (m:Bn mg) (g_law_draw:Fn P w K mg base 1 "_law_draw" ["_law_feed_here","_law_many"] spDraw):Yj P w K mg base CX0 2 f fd ["_law_feed_here"] (spFar K):=by
 refine F.ok sc_law_far (fun vs H Q E h=>?_) (fun cdv A outer s H vs Q E hr h=>?_)
 ·obtain ⟨l,rfl,_⟩:=h
  rfl
 obtain ⟨l,rfl,fe,q⟩:=h
 refine ⟨_,(@Zj _ _ _ _ _ (@Zk _ 1 _ _ _ _ _ sc_law_far.nd rfl (by trivial) (@Yf _ _ _ _ (@Zw _ _ _ _ _ (@Zn _ _ _ _ _ (@Zw _ _ _ _ _ Zz (@Zw _ _ _ _ _ Zz (@Zw _ _ _ _ _ Zz (@Zw _ _ _ _ _ Zz Zx rfl) rfl) rfl) rfl)) (@Zw _ _ _ _ _ (@Zn _ _ _ _ _ (@Zw _ _ _ _ _ Zz (@Zw _ _ _ _ _ Zz (@Zw _ _ _ _ _ Zz (@Zw _ _ _ _ _ Zz (@Zw _ _ _ _ _ Zz Zx rfl) rfl) rfl) rfl) rfl)) (@Zw _ _ _ _ _ (@Zn _ _ _ _ _ (@Zw _ _ _ _ _ Zz (@Zw _ _ _ _ _ Zz (@Zw _ _ _ _ _ Zz Zx rfl) rfl) rfl)) (@Zw _ _ _ _ _ (@Zn _ _ _ _ _ (@Zw _ _ _ _ _ Zz (@Zw _ _ _ _ _ Zz (@Zw _ _ _ _ _ Zz Zx rfl) rfl) rfl)) (@Zw _ _ _ _ _ (@Zn _ _ _ _ _ (@Zw _ _ _ _ _ Zz (@Zw _ _ _ _ _ Zz (@Zw _ _ _ _ _ Zz Zx rfl) rfl) rfl)) (@Zw _ _ _ _ _ (@Zn _ _ _ _ _ (@Zw _ _ _ _ _ Zz (@Zw _ _ _ _ _ Zz (@Zw _ _ _ _ _ Zz Zx rfl) rfl) rfl)) Zx rfl) rfl) rfl) rfl) rfl) rfl)) rfl (by trivial)) (@Zj _ _ _ _ _ (@Zk _ 1 _ _ _ _ _ sc_law_far.nd rfl (by trivial) (@Zg _ _ _ _ _ _ _ _ op_cat (pv 1) (@Yf _ _ _ _ (@Zw _ _ _ _ _ (@Zn _ _ _ _ _ (@Zw _ _ _ _ _ Zz (@Zw _ _ _ _ _ Zz (@Zw _ _ _ _ _ Zz (@Zw _ _ _ _ _ Zz (@Zw _ _ _ _ _ Zz (@Zw _ _ _ _ _ Zz (@Zw _ _ _ _ _ Zz (@Zw _ _ _ _ _ Zz (@Zw _ _ _ _ _ Zz Zx rfl) rfl) rfl) rfl) rfl) rfl) rfl) rfl) rfl)) (@Zw _ _ _ _ _ (@Zn _ _ _ _ _ (@Zw _ _ _ _ _ Zz (@Zw _ _ _ _ _ Zz Zx rfl) rfl)) (@Zw _ _ _ _ _ (@Zn _ _ _ _ _ (@Zw _ _ _ _ _ Zz (@Zw _ _ _ _ _ Zz Zx rfl) rfl)) (@Zw _ _ _ _ _ (@Zn _ _ _ _ _ (@Zw _ _ _ _ _ Zz (@Zw _ _ _ _ _ Zz Zx rfl) rfl)) (@Zw _ _ _ _ _ (@Zn _ _ _ _ _ (@Zw _ _ _ _ _ Zz (@Zw _ _ _ _ _ Zz Zx rfl) rfl)) (@Zw _ _ _ _ _ (@Zn _ _ _ _ _ (@Zw _ _ _ _ _ Zz (@Zw _ _ _ _ _ Zz Zx rfl) rfl)) Zx rfl) rfl) rfl) rfl) rfl) rfl))) rfl (by trivial)) (@Zj _ _ _ _ _ (@Zk _ 1 _ _ _ _ _ sc_law_far.nd rfl (by trivial) (@Zg _ _ _ _ _ _ _ _ op_cat (pv 1) (@Yf _ _ _ _ (@Zw _ _ _ _ _ (@Zn _ _ _ _ _ (@Zw _ _ _ _ _ Zz (@Zw _ _ _ _ _ Zz (@Zw _ _ _ _ _ Zz (@Zw _ _ _ _ _ Zz (@Zw _ _ _ _ _ Zz (@Zw _ _ _ _ _ Zz (@Zw _ _ _ _ _ Zz (@Zw _ _ _ _ _ Zz (@Zw _ _ _ _ _ Zz Zx rfl) rfl) rfl) rfl) rfl) rfl) rfl) rfl) rfl)) (@Zw _ _ _ _ _ (@Zn _ _ _ _ _ (@Zw _ _ _ _ _ Zz (@Zw _ _ _ _ _ Zz (@Zw _ _ _ _ _ Zz (@Zw _ _ _ _ _ Zz (@Zw _ _ _ _ _ Zz (@Zw _ _ _ _ _ Zz (@Zw _ _ _ _ _ Zz (@Zw _ _ _ _ _ Zz (@Zw _ _ _ _ _ Zz Zx rfl) rfl) rfl) rfl) rfl) rfl) rfl) rfl) rfl)) Zx rfl) rfl))) rfl (by trivial)) (@Zj _ _ _ _ _ (@Zk _ 1 _ _ _ _ _ sc_law_far.nd rfl (by trivial) (@Zg _ _ _ _ _ _ _ _ op_cat (pv 1) (@Yf _ _ _ _ (@Zw _ _ _ _ _ (@Zn _ _ _ _ _ (@Zw _ _ _ _ _ Zz Zx rfl)) (@Zw _ _ _ _ _ (@Zn _ _ _ _ _ (@Zw _ _ _ _ _ Zz Zx rfl)) Zx rfl) rfl))) rfl (by trivial)) (@Zv _ _ _ (@Zc _ _ _ _ (@Za _ _ _ _ _ _ _ Z8 (pv 1) (@Zy _ _ _ _ _ _ _ _ _ _ g_law_draw hr.m rfl (@Zw _ _ _ _ _ (pv 0) (@Zw _ _ _ _ _ Zz Zx rfl) rfl) (by decide) rfl rfl) (fun _ _=>rfl)))))))), ?_⟩
 dsimp only [tSeq,tAsg]
 refine bL_ok (K:=K) (n:=10) [[255,255,190,5],[255,255,255,255,1],[192,132,61],[193,132,61],[192,132,62],[128,128,0]] (by unfold Byt; decide +kernel) (by decide) (by decide) fun l0 v0 H0 s0 h0 a0 e0=>?_
 have cat:∀ {la lb:Addr} {va vb:List V} {Ha Hb:Hp} {R:VK},Zt H Ha->Ha la=some (.lst va)->AN K Ha 10 va->va.length<=100->Zt Ha Hb->Hb lb=some (.lst vb)->AN K Hb 10 vb->vb.length<=100->(∀ p H',Zt H H'->H' p=some (.lst (va++vb))->AN K H' 10 (va++vb)->R (.ref p) H')->rCat (.ref la) (.ref lb) Hb R :=
  fun sa ha aa ea sb hb ab eb r=>⟨_,_,_,_,rfl,rfl,sb _ _ ha,hb,Nat.le_trans (show _<=1000 by omega) (by decide),fun p hp=>r p _ (sa.trans (sb.trans (Zt.lay hp))) Zq (((aa.same sb).app ab).same (Zt.lay hp))⟩
 dsimp only [tSeq,tAsg,tOp,gName]
 refine ⟨_,rfl, ?_⟩
 refine bL_ok (K:=K) (n:=10) [[255,255,255,255,255,255,255,255,127],[200,1],[201,1],[199,1],[231,7],[232,7]] (by unfold Byt; decide +kernel) (by decide) (by decide) fun l1 v1 H1 s1 h1 a1 e1=>?_
 have e0:v0.length=6:=e0
 have e1:v1.length=6:=e1
 refine cat s0 h0 a0 (by omega) s1 h1 a1 (by omega) fun l2 H2 s2 h2 a2=>?_
 refine ⟨_,rfl, ?_⟩
 refine bL_ok (K:=K) (n:=10) [[128,128,160,246,244,172,219,224,27],[129,128,160,246,244,172,219,224,27]] (by unfold Byt; decide +kernel) (by decide) (by decide) fun l3 v3 H3 s3 h3 a3 e3=>?_
 have e3:v3.length=2:=e3
 refine cat s2 h2 a2 (by rw [List.length_append]; omega) s3 h3 a3 (by omega) fun l4 H4 s4 h4 a4=>?_
 refine ⟨_,rfl, ?_⟩
 refine bL_ok (K:=K) (n:=10) [[8],[9]] (by unfold Byt; decide +kernel) (by decide) (by decide) fun l5 v5 H5 s5 h5 a5 e5=>?_
 have e5:v5.length=2:=e5
 refine cat s4 h4 a4 (by rw [List.length_append,List.length_append]; omega) s5 h5 a5 (by omega) fun l6 H6 s6 h6 a6=>?_
 generalize hv:v0++v1++v3++v5=vv at h6 a6
 have ev:vv.length=16:=by rw [<-hv,List.length_append,List.length_append,List.length_append]; omega
 have t6:=(Y7.refl fe).same s6
 refine ⟨_,rfl,_,rfl,l,16,rfl,t6.feed,by decide,by decide,fun r H' r0 r1 st=>?_⟩
 obtain ⟨j,rfl⟩:=Int.eq_ofNat_of_zero_le r0
 have hj:j<vv.length:=by omega
 have nl:l6≠l:=fun z=>by
  obtain ⟨_,_,_,_,hx⟩:=t6.feed
  rw [z,hx] at h6
  cases h6
  cases ev
 obtain ⟨p,bs,ep,hp,b,ln⟩:=a6 _ (List.getElem_mem hj)
 exact ⟨l6,_,_,vv[j],rfl,rfl,Yc.of (st.keep _ _ nl h6),L2.Z1 (List.getElem?_eq_getElem hj),q _ H' (t6.trans st) ⟨p,bs,ep,st.up t6.feed _ _ hp,b,ln⟩⟩
end
abbrev s_law_spoilt:Stmt:=top 59
abbrev N_law_spoilt:List Str:=["_law_feed_here","_law_file","_law_other","_law_some","_law_turn","_law_at","_law_byte","_law_way"]
theorem Yp:Zr N_law_spoilt ["_law_feed_here","_law_file","_law_other"] (Zb s_law_spoilt):=by trivial
def Ve (vs:List V):Prop:=∀ v∈vs,∃ b:Int,v=.int b/\0<=b/\b<=255
theorem Ve.bv:∀ {vs:List V},Ve vs->∃ bs,vs=K05.bv bs/\Byt bs
 | [],_=>⟨[],rfl,fun _ m=>(List.not_mem_nil m).elim⟩
 | v::vs,h=>by
  obtain ⟨b,rfl,b0,b1⟩:=h v List.mem_cons_self
  obtain ⟨bs,rfl,hb⟩:=Ve.bv fun u m=>h u (List.mem_cons_of_mem _ m)
  refine ⟨b::bs,rfl,fun x m=>?_⟩
  rcases List.mem_cons.mp m with rfl | m
  ·exact ⟨b0,b1⟩
  ·exact hb x m
theorem Ve.of {bs:List Int} (h:Byt bs):Ve (K05.bv bs):=fun v m=>by
 obtain ⟨b,mb,rfl⟩:=List.mem_map.mp m
 exact ⟨b,rfl,h b mb⟩
theorem Ve.app {vs us:List V} (a:Ve vs) (b:Ve us):Ve (vs++us):=fun v m=>by
 rcases List.mem_append.mp m with m | m
 ·exact a v m
 ·exact b v m
theorem Ve.sub {vs us:List V} (a:Ve vs) (h:∀ v∈us,v∈vs):Ve us:=fun v m=>a v (h v m)
theorem Ve.cut {vs:List V} (a:Ve vs) (lo hi:Option Int):Ve (cutV vs lo hi):=a.sub fun v m=>List.mem_of_mem_drop (List.mem_of_mem_take m)
theorem Ve.one {b:Int} (h0:0<=b) (h1:b<=255):Ve [.int b]:=fun v m=>⟨b,List.mem_singleton.mp m,h0,h1⟩
theorem Ve.set {vs:List V} (a:Ve vs) {j:Nat} {b:Int} (h0:0<=b) (h1:b<=255):Ve (vs.set j (.int b)):=fun v m=>by
 rcases List.mem_or_eq_of_mem_set m with m | rfl
 ·exact a v m
 ·exact ⟨b,rfl,h0,h1⟩
theorem Ve.at {vs:List V} (a:Ve vs) {i:Nat} (h:i<vs.length):∃ b:Int,vs[i]?=some (.int b)/\0<=b/\b<=255:=by
 obtain ⟨b,e,h'⟩:=a _ (List.getElem_mem h)
 exact ⟨b,by rw [List.getElem?_eq_getElem h,e],h'⟩
theorem cutTo_len (vs:List V) {k:Nat} (h:k<=vs.length):(cutV vs none (some (k:Int))).length=k:=by
 unfold cutV
 rw [HT.sIx_nat,HT.sIx_none,List.length_take,List.length_drop]
 omega
theorem cutFrom_len (vs:List V) {k:Nat} (h:k<=vs.length):(cutV vs (some (k:Int)) none).length=vs.length - k:=by
 unfold cutV
 rw [HT.sIx_nat,HT.sIx_none,List.length_take,List.length_drop]
 omega
def spSpoilt (K:W.Frag):Sp:=fun vs H Q _=>∃ (l pf po:Addr) (fb ob:List Int),vs=[.ref l,.ref pf,.ref po]/\Feed H l/\Yg K H pf (bv fb)/\Byt fb/\Yg K H po (bv ob)/\Byt ob/\fb.length<=300000/\ob.length<=300000 /\
 ∀ (a:Addr) (bs:List Int) (H':Hp),Y7 l H H'->FB K H' a bs->Q (.ref a) H'
section
variable {P:Program} {w:World} {K:W.Frag} {mg:Str->Option Value} {base:Heap} {f:Addr} {fd:FuncData}
theorem ok_spoilt (F:Uf K "_law_spoilt" "_law_spoilt" s_law_spoilt f fd) (m:Bn mg) (g_law_draw:Fn P w K mg base 1 "_law_draw" ["_law_feed_here","_law_many"] spDraw):Yj P w K mg base CX0 2 f fd ["_law_feed_here","_law_file","_law_other"] (spSpoilt K):=by
 refine F.ok Yp (fun vs H Q E h=>?_) (fun cdv A outer s H vs Q E hr h=>?_)
 ·obtain ⟨l,pf,po,fb,ob,rfl,_⟩:=h
  rfl
 obtain ⟨l,pf,po,fb,ob,rfl,fe,hf,bf,ho,bo,lf,lo,q⟩:=h
 refine ⟨_,(@Zj _ _ _ _ _ (@Zk _ 3 _ _ _ _ _ Yp.nd rfl (by trivial) (@Yn _ _ _ _ _ _ _ _ _ call_list_of rfl m.list b_list (@Zw _ _ _ _ _ (pv 1) Zx rfl) (by trivial) (by trivial) (by trivial) (by trivial)) rfl (by trivial)) (@Zj _ _ _ _ _ (@ps_for _ _ _ _ _ _ _ _ PassesOwn.never rfl (@Yi _ _ _ _ _ _ rfl m.range (@Zw _ _ _ _ _ (@Zg _ _ _ _ _ _ _ _ Yx Zz (@Zy _ _ _ _ _ _ _ _ _ _ g_law_draw hr.m rfl (@Zw _ _ _ _ _ (pv 0) (@Zw _ _ _ _ _ Zz Zx rfl) rfl) (by decide) rfl rfl)) Zx rfl) (by trivial)) (@Zo _ 4 _ _ Yp.nd rfl (by trivial) (by trivial)) (@Zj _ _ _ _ _ (@Zk _ 5 _ _ _ _ _ Yp.nd rfl (by trivial) (@Zy _ _ _ _ _ _ _ _ _ _ g_law_draw hr.m rfl (@Zw _ _ _ _ _ (pv 0) (@Zw _ _ _ _ _ (@Zg _ _ _ _ _ _ _ _ Yx (@Z9 _ _ _ _ _ _ _ _ _ Yy rfl m.len b_len (@Zw _ _ _ _ _ (pv 3) Zx rfl) (by decide) (by decide) rfl rfl) Zz) Zx rfl) rfl) (by decide) rfl rfl) rfl (by trivial)) (@Zj _ _ _ _ _ (@Zk _ 6 _ _ _ _ _ Yp.nd rfl (by trivial) (@Za _ _ _ _ _ _ _ Z8 (@Yf _ _ _ _ (@Zw _ _ _ _ _ Zz (@Zw _ _ _ _ _ Zz (@Zw _ _ _ _ _ Zz (@Zw _ _ _ _ _ Zz (@Zw _ _ _ _ _ Zz (@Zw _ _ _ _ _ Zz (@Zw _ _ _ _ _ Zz (@Zw _ _ _ _ _ Zz (@Zw _ _ _ _ _ Zz (@Zw _ _ _ _ _ Zz (@Zw _ _ _ _ _ Zz (@Zw _ _ _ _ _ Zz (@Zw _ _ _ _ _ Zz (@Zw _ _ _ _ _ Zz (@Zw _ _ _ _ _ Zz (@Zw _ _ _ _ _ Zz Zx rfl) rfl) rfl) rfl) rfl) rfl) rfl) rfl) rfl) rfl) rfl) rfl) rfl) rfl) rfl) rfl)) (@Zy _ _ _ _ _ _ _ _ _ _ g_law_draw hr.m rfl (@Zw _ _ _ _ _ (pv 0) (@Zw _ _ _ _ _ Zz Zx rfl) rfl) (by decide) rfl rfl) (fun _ _=>rfl)) rfl (by trivial)) (@Zj _ _ _ _ _ (@Zk _ 7 _ _ _ _ _ Yp.nd rfl (by trivial) (@Zy _ _ _ _ _ _ _ _ _ _ g_law_draw hr.m rfl (@Zw _ _ _ _ _ (pv 0) (@Zw _ _ _ _ _ Zz Zx rfl) rfl) (by decide) rfl rfl) rfl (by trivial)) (@Zv _ _ _ (@Ze _ _ _ _ _ _ _ _ (@Zm _ _ _ _ _ _ _ _ Ym (pv 7) Zz (Zd _)) (@Zv _ _ _ (@Zk _ 3 _ _ _ _ _ Yp.nd rfl (by trivial) (@pe_slice _ _ _ _ _ _ _ _ _ _ sl_list (pv 3) (@po_none _) (@po_some _ _ _ (pv 5))) rfl (by trivial))) (@Zv _ _ _ (@Ze _ _ _ _ _ _ _ _ (@Zm _ _ _ _ _ _ _ _ Ym (pv 7) Zz (Zd _)) (@Zv _ _ _ (@Yz _ _ _ _ (@pe_bm _ _ _ _ _ _ _ _ _ _ _ _ PySem.F.plainAttrs_list PySem.F.slot_list_insert PySem.F.type_list_insert mt_insert (pv 3) (@Zw _ _ _ _ _ (pv 5) (@Zw _ _ _ _ _ (pv 6) Zx rfl) rfl) (by trivial) (by trivial) (by trivial) (by trivial) (by trivial)) rfl)) (@Zv _ _ _ (@Ze _ _ _ _ _ _ _ _ (@Zm _ _ _ _ _ _ _ _ Ym (pv 7) Zz (Zd _)) (@Zv _ _ _ (@Zk _ 3 _ _ _ _ _ Yp.nd rfl (by trivial) (@Zg _ _ _ _ _ _ _ _ op_cat (@Zg _ _ _ _ _ _ _ _ op_cat (@pe_slice _ _ _ _ _ _ _ _ _ _ sl_list (pv 3) (@po_none _) (@po_some _ _ _ (pv 5))) (@Yn _ _ _ _ _ _ _ _ _ call_list_of rfl m.list b_list (@Zw _ _ _ _ _ (pv 2) Zx rfl) (by trivial) (by trivial) (by trivial) (by trivial))) (@pe_slice _ _ _ _ _ _ _ _ _ _ sl_list (pv 3) (@po_some _ _ _ (pv 5)) (@po_none _))) rfl (by trivial))) (@Zv _ _ _ (@Ze _ _ _ _ _ _ _ _ (@Zm _ _ _ _ _ _ _ _ Ym (pv 5) (@Z9 _ _ _ _ _ _ _ _ _ Yy rfl m.len b_len (@Zw _ _ _ _ _ (pv 3) Zx rfl) (by decide) (by decide) rfl rfl) (Zd _)) (@Zv _ _ _ (@Yz _ _ _ _ (@pe_bm _ _ _ _ _ _ _ _ _ _ _ _ PySem.F.plainAttrs_list PySem.F.slot_list_append PySem.F.type_list_append V0 (pv 3) (@Zw _ _ _ _ _ (pv 6) Zx rfl) (by trivial) (by trivial) (by trivial) (by trivial) (by trivial)) rfl)) (@Zv _ _ _ (@Ze _ _ _ _ _ _ _ _ (@Zm _ _ _ _ _ _ _ _ Ym (pv 7) Zz (Zd _)) (@Zv _ _ _ (@Yz _ _ _ _ (@pe_bm _ _ _ _ _ _ _ _ _ _ _ _ PySem.F.plainAttrs_list PySem.F.slot_list_pop PySem.F.type_list_pop mt_popAt (pv 3) (@Zw _ _ _ _ _ (pv 5) Zx rfl) (by trivial) (by trivial) (by trivial) (by trivial) (by trivial)) rfl)) (@Zv _ _ _ (@Ze _ _ _ _ _ _ _ _ (@PW.pt _ _ _ (@pw_and _ _ _ _ _ _ _ (@Zm _ _ _ _ _ _ _ _ Ym (pv 7) Zz (Zd _)) (@pw_and1 _ _ _ _ (@Zm _ _ _ _ _ _ _ _ op_lt (@Za _ _ _ _ _ _ _ Z8 (pv 3) (pv 5) (fun _ _=>rfl)) Zz (Zd _))))) (@Zv _ _ _ (@Zk _ 3 _ _ _ _ _ Yp.nd rfl (by trivial) (@Zg _ _ _ _ _ _ _ _ op_cat (@Zg _ _ _ _ _ _ _ _ op_cat (@pe_slice _ _ _ _ _ _ _ _ _ _ sl_list (pv 3) (@po_none _) (@po_some _ _ _ (pv 5))) (@Yf _ _ _ _ (@Zw _ _ _ _ _ (@Zg _ _ _ _ _ _ _ _ Yx (@Za _ _ _ _ _ _ _ Z8 (pv 3) (pv 5) (fun _ _=>rfl)) Zz) (@Zw _ _ _ _ _ Zz Zx rfl) rfl))) (@pe_slice _ _ _ _ _ _ _ _ _ _ sl_list (pv 3) (@po_some _ _ _ (@Zg _ _ _ _ _ _ _ _ Yx (pv 5) Zz)) (@po_none _))) rfl (by trivial))) (@Zv _ _ _ (@Ze _ _ _ _ _ _ _ _ (@Zm _ _ _ _ _ _ _ _ op_lt (pv 7) Zz (Zd _)) (@Zv _ _ _ (@ps_asg _ _ _ _ _ _ (pv 6) (@pg_sub _ _ _ _ _ _ _ (pv 3) (pv 5) set_list (by trivial)) (by trivial) (by trivial) (by trivial))) (@Zv _ _ _ (@ps_asg _ _ _ _ _ _ (@Zg _ _ _ _ _ _ _ _ Vi (@Zg _ _ _ _ _ _ _ _ Yx (@Za _ _ _ _ _ _ _ Z8 (pv 3) (pv 5) (fun _ _=>rfl)) (@Za _ _ _ _ _ _ _ Z8 (@Yf _ _ _ _ (@Zw _ _ _ _ _ Zz (@Zw _ _ _ _ _ Zz (@Zw _ _ _ _ _ Zz (@Zw _ _ _ _ _ Zz Zx rfl) rfl) rfl) rfl)) (@Zy _ _ _ _ _ _ _ _ _ _ g_law_draw hr.m rfl (@Zw _ _ _ _ _ (pv 0) (@Zw _ _ _ _ _ Zz Zx rfl) rfl) (by decide) rfl rfl) (fun _ _=>rfl))) Zz) (@pg_sub _ _ _ _ _ _ _ (pv 3) (pv 5) set_list (by trivial)) (by trivial) (by trivial) (by trivial)))))))))))))))))))) (by trivial)) (@Zv _ _ _ (@Zc _ _ _ _ (pv 3))))), ?_⟩
 refine ⟨_,rfl,pf,_,rfl,.inr hf,fun p0 hp0=>?_⟩
 have n0:=fe.ne hp0
 have fe0:Feed (Z6 H p0 (.lst (bv fb))) l:=fe.put n0
 refine ⟨_,rfl,l,2,rfl,fe0,by decide,by decide,fun r H1 r0 r1 st1=>⟨_,_,rfl,rfl, ?_⟩⟩
 have St1:Y7 l H H1:=((Y7.refl fe).lay fe hp0).trans st1
 have hp1:H1 p0=some (.lst (bv fb)):=st1.keep _ _ n0 Zq
 refine ⟨_,rfl,by omega,by omega,V1 (n:=(1+r).toNat) (fun i σ H2=>∃ (s:Addr) (vs:List V) (o4 o5 o6 o7:Option V),σ=[some (.ref l),some (.ref pf),some (.ref po),some (.ref s),o4,o5,o6,o7]/\Y7 l H H2/\H s=none/\s≠l/\H2 s=some (.lst vs)/\Ve vs/\vs.length<=300000+i * 300001)
  ⟨p0,_,_,_,_,_,rfl,St1,hp0,n0,hp1,Ve.of bf,by rw [Zu]; omega⟩ ?_ ?_⟩
 ·rintro i σ H2 hi ⟨s,vs,o4,o5,o6,o7,rfl,St2,fs,ns,hs,bvs,ln⟩
  have i2:i<2:=by omega
  have hz:∀ n:Nat,n<=1000000->n<=sizeLine:=fun n h=>by have:=sizeLine_eq; omega
  have hzl:∀ n:Nat,n<=1000000->n<sizeLine:=fun n h=>by have:=sizeLine_eq; omega
  refine ⟨_,rfl,_,rfl,s,_,rfl,.inl (Yc.of hs),_,_,rfl,rfl,l,_,rfl,St2.feed,by omega,by omega,fun k0 H3 k00 k01 st3=>?_⟩
  obtain ⟨k,rfl⟩:=Int.eq_ofNat_of_zero_le k00
  have kle:k<=vs.length:=by omega
  have St3:=St2.trans st3
  have hs3:=st3.keep _ _ ns hs
  refine ⟨(sz 16),fun lb hlb=>?_⟩
  have nb:=St3.feed.ne hlb
  refine ⟨_,rfl,l,16,rfl,St3.feed.put nb,by decide,by decide,fun j0 H5 j00 j01 st5=>?_⟩
  obtain ⟨j,rfl⟩:=Int.eq_ofNat_of_zero_le j00
  obtain ⟨b,eb,b0,b1⟩:=Ve.at (i:=j) (Ve.of (bs:=[0,1,2,3,4,5,6,37,97,122,127,128,129,255,48,65]) (by unfold Byt; decide)) (by show j<16; omega)
  refine ⟨lb,_,_,.int b,rfl,rfl,Yc.of (st5.keep _ _ nb Zq),L2.Z1 eb, ?_⟩
  have St5:Y7 l H H5:=(St3.lay fe hlb).trans st5
  have hs5:H5 s=some (.lst vs):=st5.keep _ _ ns (by rw [Zh (Z5 hs3 hlb)]; exact hs3)
  refine ⟨_,rfl,l,9,rfl,St5.feed,by decide,by decide,fun way H6 w0 w1 st6=>?_⟩
  have St6:=St5.trans st6
  have hs6:=st6.keep _ _ ns hs5
  have ho6:=St6.up (K:=K) fe _ _ ho
  have i1:(i+1) * 300001=i * 300001+300001:=by omega
  refine ⟨_,rfl,rfl,_,rfl, ?_⟩
  rw [Yd]
  by_cases c0:way=0
  ·refine Yv (beq_iff_eq.mpr c0) ⟨_,rfl,_,rfl,_,rfl,s,_,rfl,Yc.of hs6,fun p7 h7=>?_⟩
   have:=cutTo_len vs kle
   exact ⟨p7,_,_,_,_,_,rfl,St6.lay fe h7,St6.free fe h7,St6.feed.ne h7,Zq,bvs.cut _ _,by omega⟩
  refine Z2 (beq_false_of_ne c0) ⟨_,rfl,rfl,_,rfl, ?_⟩
  rw [Yd]
  by_cases c1:way=1
  ·refine Yv (beq_iff_eq.mpr c1) ⟨_,rfl,.inl ⟨rfl,_,Yc.of hs6⟩,_,rfl,_,rfl,s,_,k,_,rfl,rfl,hs6,kle,hzl _ (by omega), ?_⟩
   refine ⟨s,_,_,_,_,_,rfl,St6.put ns fs,fs,ns,Zq, ?_, ?_⟩
   ·exact (bvs.sub fun v m=>List.mem_of_mem_take m).app ((Ve.one b0 b1).app (bvs.sub fun v m=>List.mem_of_mem_drop m))
   ·rw [List.length_append,List.length_cons,List.length_take,List.length_drop]
    omega
  refine Z2 (beq_false_of_ne c1) ⟨_,rfl,rfl,_,rfl, ?_⟩
  rw [Yd]
  by_cases c2:way=2
  ·refine Yv (beq_iff_eq.mpr c2) ⟨_,rfl,_,rfl,_,rfl,s,_,rfl,Yc.of hs6,fun p7 h7=>?_⟩
   have St7:=St6.lay (o:=.lst (cutV vs none (some (k:Int)))) fe h7
   have e7:=Zt.lay (o:=.lst (cutV vs none (some (k:Int)))) h7
   refine ⟨_,rfl,po,_,rfl,.inr (e7.up _ _ ho6),fun p8 h8=>?_⟩
   have St8:=St7.lay (o:=.lst (bv ob)) fe h8
   have e8:=Zt.lay (o:=.lst (bv ob)) h8
   have z1:=cutTo_len vs kle
   refine ⟨p7,p8,_,_,rfl,rfl,e8 _ _ Zq,Zq,hz _ (by rw [Zu]; omega),fun p9 h9=>?_⟩
   have St9:=St8.lay (o:=.lst (cutV vs none (some (k:Int))++bv ob)) fe h9
   have e9:=Zt.lay (o:=.lst (cutV vs none (some (k:Int))++bv ob)) h9
   refine ⟨_,rfl,_,rfl,_,rfl,s,_,rfl,Yc.of ((e7.trans (e8.trans e9)) _ _ hs6),fun p10 h10=>?_⟩
   have St10:=St9.lay (o:=.lst (cutV vs (some (k:Int)) none)) fe h10
   have e10:=Zt.lay (o:=.lst (cutV vs (some (k:Int)) none)) h10
   have z2:=cutFrom_len vs kle
   refine ⟨p9,p10,_,_,rfl,rfl,e10 _ _ Zq,Zq,hz _ (by rw [List.length_append,Zu]; omega),fun p11 h11=>?_⟩
   refine ⟨p11,_,_,_,_,_,rfl,St10.lay fe h11,St10.free fe h11,St10.feed.ne h11,Zq,((bvs.cut _ _).app (Ve.of bo)).app (bvs.cut _ _), ?_⟩
   rw [List.length_append,List.length_append,Zu]
   omega
  refine Z2 (beq_false_of_ne c2) ⟨_,rfl,_,rfl,s,_,rfl,.inl (Yc.of hs6),rfl,_,rfl, ?_⟩
  rw [Yd]
  by_cases c3:k=vs.length
  ·refine Yv (beq_iff_eq.mpr (by rw [c3])) ⟨_,rfl,.inl ⟨rfl,_,Yc.of hs6⟩,_,rfl,s,_,_,rfl,rfl,hs6,hzl _ (by omega), ?_⟩
   refine ⟨s,_,_,_,_,_,rfl,St6.put ns fs,fs,ns,Zq,bvs.app (Ve.one b0 b1), ?_⟩
   rw [List.length_append]
   show vs.length+1<=_
   omega
  have klt:k<vs.length:=by omega
  obtain ⟨y,ey,y0,y1⟩:=bvs.at klt
  refine Z2 (beq_false_of_ne (by omega)) ⟨_,rfl,rfl,_,rfl, ?_⟩
  rw [Yd]
  have ixk:ixN vs.length (k:Int)=some k:=by
   unfold ixN
   rw [if_pos (by omega),if_pos (by omega)]; simp
  have zb:(vs.set k (.int b)).length=vs.length:=List.length_set
  have hs64:=sizeLine_eq
  by_cases c4:way=3
  ·refine Yv (beq_iff_eq.mpr c4) ⟨_,rfl,.inl ⟨rfl,_,Yc.of hs6⟩,_,rfl,s,_,_,k,_,rfl,rfl,hs6,by omega,by omega, ?_,ey, ?_⟩
   ·exact (ixN_seq ixk).1
   ·refine ⟨s,_,_,_,_,_,rfl,St6.put ns fs,fs,ns,Zq,bvs.sub fun v m=>List.mem_of_mem_eraseIdx m, ?_⟩
    have:=List.length_eraseIdx_le vs k
    omega
  refine Z2 (beq_false_of_ne c4) ?_
  refine ⟨_,rfl,rfl,_,rfl, ?_⟩
  rw [Yd]
  by_cases c5:way=4
  ·refine Yv (beq_iff_eq.mpr c5) ⟨_,rfl,_,rfl,s,_,_,.int y,rfl,rfl,Yc.of hs6,L2.Z1 ey,_,_,rfl,rfl,_,rfl, ?_⟩
   by_cases c6:y<128
   ·refine Yv (decide_eq_true c6) ?_
    refine ⟨_,rfl,_,rfl,_,rfl,s,_,rfl,Yc.of hs6,fun p7 h7=>?_⟩
    have St7:=St6.lay (o:=.lst (cutV vs none (some (k:Int)))) fe h7
    have e7:=Zt.lay (o:=.lst (cutV vs none (some (k:Int)))) h7
    refine ⟨_,rfl,_,rfl,s,_,_,.int y,rfl,rfl,Yc.of (e7 _ _ hs6),L2.Z1 ey,_,_,rfl,rfl,(sz 2),fun p8 h8=>?_⟩
    have St8:=St7.lay (o:=.lst [.int (y+128),.int 0]) fe h8
    have e8:=Zt.lay (o:=.lst [.int (y+128),.int 0]) h8
    have z1:=cutTo_len vs kle
    refine ⟨p7,p8,_,_,rfl,rfl,e8 _ _ Zq,Zq,hz _ (by show _+2<=_; omega),fun p9 h9=>?_⟩
    have St9:=St8.lay (o:=.lst (cutV vs none (some (k:Int))++[.int (y+128),.int 0])) fe h9
    have e9:=Zt.lay (o:=.lst (cutV vs none (some (k:Int))++[.int (y+128),.int 0])) h9
    refine ⟨_,rfl,_,rfl,_,_,rfl,rfl,_,rfl,s,_,rfl,Yc.of ((e7.trans (e8.trans e9)) _ _ hs6),fun p10 h10=>?_⟩
    have St10:=St9.lay (o:=.lst (cutV vs (some ((k:Int)+1)) none)) fe h10
    have e10:=Zt.lay (o:=.lst (cutV vs (some ((k:Int)+1)) none)) h10
    have z2:=cutFrom_len vs (k:=k+1) klt
    have z3:(cutV vs (some ((k:Int)+1)) none).length=vs.length - (k+1):=z2
    refine ⟨p9,p10,_,_,rfl,rfl,e10 _ _ Zq,Zq,hz _ (by rw [List.length_append,z1,z3]; show _+2+_<=_; omega),fun p11 h11=>?_⟩
    refine ⟨p11,_,_,_,_,_,rfl,St10.lay fe h11,St10.free fe h11,St10.feed.ne h11,Zq,((bvs.cut _ _).app ((Ve.one (b:=y+128) (by omega) (by omega)).app (Ve.one (b:=0) (by omega) (by omega)))).app (bvs.cut _ _), ?_⟩
    rw [List.length_append,List.length_append,z1,z3]
    show _+2+_<=_
    omega
   ·refine Z2 (decide_eq_false c6) ⟨_,rfl,_,_,rfl,rfl,_,rfl,Yv (decide_eq_true (by omega)) ?_⟩
    exact ⟨_,rfl,_,rfl,_,rfl,s,vs,_,k,rfl,rfl,hs6,ixk,s,_,_,_,_,_,rfl,St6.put ns fs,fs,ns,Zq,bvs.set b0 b1,by omega⟩
  ·refine Z2 (beq_false_of_ne c5) ⟨_,rfl,_,_,rfl,rfl,_,rfl, ?_⟩
   by_cases c7:way<7
   ·refine Yv (decide_eq_true c7) ?_
    exact ⟨_,rfl,_,rfl,_,rfl,s,vs,_,k,rfl,rfl,hs6,ixk,s,_,_,_,_,_,rfl,St6.put ns fs,fs,ns,Zq,bvs.set b0 b1,by omega⟩
   ·refine Z2 (decide_eq_false c7) ⟨_,rfl,_,rfl,s,_,_,.int y,rfl,rfl,Yc.of hs6,L2.Z1 ey,(sz 4),fun lq hlq=>?_⟩
    have nq:=St6.feed.ne hlq
    have St7:=St6.lay (o:=.lst (bv [1,255,128,2])) fe hlq
    refine ⟨_,rfl,l,4,rfl,St7.feed,by decide,by decide,fun d0 H8 d00 d01 st8=>?_⟩
    obtain ⟨d,rfl⟩:=Int.eq_ofNat_of_zero_le d00
    obtain ⟨x,ex,x0,x1⟩:=Ve.at (i:=d) (Ve.of (bs:=[1,255,128,2]) (by unfold Byt; decide)) (by show d<4; omega)
    have hs8:H8 s=some (.lst vs):=st8.keep _ _ ns (by rw [Zh (Z5 hs6 hlq)]; exact hs6)
    refine ⟨lq,_,_,.int x,rfl,rfl,Yc.of (st8.keep _ _ nq Zq),L2.Z1 ex,_,_,rfl,rfl,_,_,rfl,rfl,(show (0:Int)<256 by decide), ?_⟩
    have zy:(vs.set k (.int ((y+x) % 256))).length=vs.length:=List.length_set
    have:=Int.emod_nonneg (y+x) (b:=256) (by decide)
    have:=Int.emod_lt_of_pos (y+x) (b:=256) (by decide)
    exact ⟨_,rfl,_,rfl,s,vs,_,k,rfl,rfl,hs8,ixk,s,_,_,_,_,_,rfl,(St7.trans st8).put ns fs,fs,ns,Zq,bvs.set (by omega) (by omega),show (vs.set k (.int ((y+x) % 256))).length<=_ by omega⟩
 ·rintro σ H2 ⟨s,vs,o4,o5,o6,o7,rfl,St2,fs,ns,hs,bvs,ln⟩
  obtain ⟨bs,rfl,hb⟩:=bvs.bv
  rw [Zu] at ln
  exact ⟨_,rfl,q _ bs _ St2 ⟨.inl (Yc.of hs),hb,by omega⟩⟩
end
abbrev s_law:Stmt:=top 64
abbrev N_law:List Str:=["_law_script","_law_k","_law_feed_here","_law_file","_law_other","_law_turn","_law_some","_law_inner","_law_deep"]
theorem sc_law:Zr N_law ["_law_script"] (Zb s_law):=by trivial
theorem byt_cons {b:Int} {bs:List Int} (h0:0<=b) (h1:b<=255) (h:Byt bs):Byt (b::bs):=fun x m=>by
 rcases List.mem_cons.mp m with rfl | m
 ·exact ⟨h0,h1⟩
 ·exact h x m
theorem byt_nil:Byt []:=fun _ m=>(List.not_mem_nil m).elim
theorem byt_codes {x:Str} (h:∀ c∈x.cps.toList,c<=255):Byt (codes x):=fun b m=>by
 obtain ⟨c,mc,rfl⟩:=List.mem_map.mp m
 have:=h c mc
 exact ⟨by omega,by omega⟩
theorem byt_sg {x:Str} (h:∀ c∈x.cps.toList,c<=255) (hl:x.length<=1000):Byt (sgB x):=Ut (Lg_bytes (by omega) (by omega)) (byt_codes h)
theorem byt_lb {s:Nat} {ls:List Lb} (g:GdL s ls) {l:Lb} (m:l∈ls):Byt (lbB l):=by
 match s,g with
 | 0,g=>rw [g l m]; exact byt_nil
 | 1,⟨ks,e,hk,_⟩ =>
  rw [e] at m
  obtain ⟨x,mx,rfl⟩:=List.mem_map.mp m
  obtain ⟨_,l8,hc⟩:=hk x mx
  exact byt_sg (fun c mc=>by have:=hc c mc; omega) (by omega)
 | s+2,⟨ks,e,hk,_⟩ =>
  rw [e] at m
  obtain ⟨n,mx,rfl⟩:=List.mem_map.mp m
  have:=hk n mx
  exact Lg_bytes (by omega) (by omega)
mutual
theorem byt_I:∀ it:IT,GdI it->(Ub it).length<=1000000->Byt (Ub it)
 | .whole n,g,_=>by
  have g':-1000000000000000000<=n/\n<=1000000000000000000:=g
  simp only [Ub]
  refine byt_cons (by decide) (by decide) (Lg_bytes (fold_nn n) ?_)
  unfold fold
  split <;> omega
 | .text x,g,_=>by
  have g':textOk x:=g
  simp only [Ub]
  exact byt_cons (by decide) (by decide) (byt_sg (fun c mc=>by have:=g'.2 c mc; unfold gdC at this; omega) (by have:=g'.1; omega))
 | .arm n e,g,h=>by
  obtain ⟨g1,g2,g3⟩:1<=n/\n<=999/\GdI e:=g
  simp only [Ub,List.length_cons,List.length_append] at h ⊢
  exact byt_cons (by decide) (by decide) (Ut (Lg_bytes (by omega) (by omega)) (byt_I e g3 (by omega)))
 | .lst s ls es,g,h=>by
  obtain ⟨g1,g2,g3,g4⟩:s<=2/\ls.length=es.length/\GdL s ls/\GdIs es:=g
  simp only [Ub,List.length_cons,List.length_append] at h ⊢
  exact byt_cons (by omega) (by omega) (Ut (Lg_bytes (by omega) (by omega)) (byt_Is ls es (fun l m=>byt_lb g3 m) g4 (by omega)))
theorem byt_Is:∀ (ls:List Lb) (es:List IT),(∀ l∈ls,Byt (lbB l))->GdIs es->(Yt ls es).length<=1000000->Byt (Yt ls es)
 | [],_,_,_,_=>by simp only [Yt]; exact byt_nil
 | _::_,[],_,_,_=>by simp only [Yt]; exact byt_nil
 | l::ls,e::es,hl,g,h=>by
  simp only [Yt,List.length_append] at h ⊢
  exact Ut (Ut (hl l List.mem_cons_self) (byt_I e g.1 (by omega))) (byt_Is ls es (fun l m=>hl l (List.mem_cons_of_mem _ m)) g.2 (by omega))
end
theorem lnB_mono {k:Nat} (h:k<=5):lnB k<=36300:=by
 match k,h with
 | 0,_=>decide
 | 1,_=>decide
 | 2,_=>decide
 | 3,_=>decide
 | 4,_=>decide
 | 5,_=>decide
def spLaw (K:W.Frag):Sp:=fun vs H Q _=>∃ (a:Addr) (ns:List Int),vs=[.ref a]/\Yc K H a (ns.map V.int)/\ns.length<=63/\∀ H',Q (.bl true) H'
theorem TB.up {K:W.Frag} {H H':Hp} {v:V} {n:Nat} (t:TB K H v n) (s:Up K H H'):TB K H' v n:=by
 obtain ⟨p,bs,rfl,h,b,l⟩:=t
 exact ⟨p,bs,rfl,s _ _ h,b,l⟩
section
variable {P:Program} {w:World} {K:W.Frag} {mg:Str->Option Value} {base:Heap} {f:Addr} {fd:FuncData}
theorem ok_law (F:Uf K "law" "law" s_law f fd) (m:Bn mg) (g_law_feed:Fn P w K mg base 1 "_law_feed" ["_law_script","_law_k"] (spFeed K)) (g_law_draw:Fn P w K mg base 1 "_law_draw" ["_law_feed_here","_law_many"] spDraw)
  (g_law_item:Fn P w K mg base 7 "_law_item" ["_law_feed_here","_law_deep"] (fun vs H Q E=>∃ d,d<=5/\spI K Gd d vs H Q E))
  (g_law_packed:Fn P w K mg base 13 "_law_packed" ["_law_item_here"] (spLPack K (9+1))) (g_law_right:Fn P w K mg base 208 "_law_right" ["_law_some"] (spRight K)) (g_law_spoilt:Fn P w K mg base 2 "_law_spoilt" ["_law_feed_here","_law_file","_law_other"] (spSpoilt K))
  (g_law_within:Fn P w K mg base 2 "_law_within" ["_law_file","_law_word","_law_many"] (spWithin K)) (g_law_far:Fn P w K mg base 2 "_law_far" ["_law_feed_here"] (spFar K)):Yj P w K mg base CX0 209 f fd ["_law_script"] (spLaw K):=by
 refine F.ok sc_law (fun vs H Q E h=>?_) (fun cdv A outer s H vs Q E hr h=>?_)
 ·obtain ⟨a,ns,rfl,_⟩:=h
  rfl
 obtain ⟨a,ns,rfl,hS,h63,q⟩:=h
 have hz:∀ n:Nat,n<=1000000->n<=sizeLine:=fun n h=>by have:=sizeLine_eq; omega
 refine ⟨_,(@Zj _ _ _ _ _ (@ps_for _ _ _ _ _ _ _ _ PassesOwn.never rfl (@Yi _ _ _ _ _ _ rfl m.range (Zf Zz Zx rfl) (by trivial)) (@Zo _ 1 _ _ sc_law.nd rfl (by trivial) (by trivial)) (@Zj _ _ _ _ _ (@Zk _ 2 _ _ _ _ _ sc_law.nd rfl (by trivial) (@Zy _ _ _ _ _ _ _ _ _ _ g_law_feed hr.m rfl (Zf (pv 0) (Zf (pv 1) Zx rfl) rfl) (by decide) rfl rfl) rfl (by trivial)) (@Zj _ _ _ _ _ (@Zk _ 3 _ _ _ _ _ sc_law.nd rfl (by trivial) (@Zy _ _ _ _ _ _ _ _ _ _ g_law_packed hr.m rfl (Zf (@Zy _ _ _ _ _ _ _ _ _ _ g_law_item hr.m rfl (Zf (pv 2) (Zf (@Zg _ _ _ _ _ _ _ _ Yx Zz (@Zy _ _ _ _ _ _ _ _ _ _ g_law_draw hr.m rfl (Zf (pv 2) (Zf Zz Zx rfl) rfl) (by decide) rfl rfl)) Zx rfl) rfl) (by decide) rfl rfl) Zx rfl) (by decide) rfl rfl) rfl (by trivial)) (@Zj _ _ _ _ _ (@Zk _ 4 _ _ _ _ _ sc_law.nd rfl (by trivial) (@Zy _ _ _ _ _ _ _ _ _ _ g_law_packed hr.m rfl (Zf (@Zy _ _ _ _ _ _ _ _ _ _ g_law_item hr.m rfl (Zf (pv 2) (Zf Zz Zx rfl) rfl) (by decide) rfl rfl) Zx rfl) (by decide) rfl rfl) rfl (by trivial)) (@Zj _ _ _ _ _ (@Ze _ _ _ _ _ _ _ _ (@pt_not _ _ _ _ (@pt_val _ _ _ (@Zy _ _ _ _ _ _ _ _ _ _ g_law_right hr.m rfl (Zf (pv 3) Zx rfl) (by decide) rfl rfl) (by intro _; rfl))) (@Zv _ _ _ (@Zc _ _ _ _ pe_bl)) Zl) (@Zj _ _ _ _ _ (@ps_for _ _ _ _ _ _ _ _ PassesOwn.never rfl (@Yi _ _ _ _ _ _ rfl m.range (Zf Zz Zx rfl) (by trivial)) (@Zo _ 5 _ _ sc_law.nd rfl (by trivial) (by trivial)) (@Zv _ _ _ (@Ze _ _ _ _ _ _ _ _ (@pt_not _ _ _ _ (@pt_val _ _ _ (@Zy _ _ _ _ _ _ _ _ _ _ g_law_right hr.m rfl (Zf (@Zy _ _ _ _ _ _ _ _ _ _ g_law_spoilt hr.m rfl (Zf (pv 2) (Zf (pv 3) (Zf (pv 4) Zx rfl) rfl) rfl) (by decide) rfl rfl) Zx rfl) (by decide) rfl rfl) (by intro _; rfl))) (@Zv _ _ _ (@Zc _ _ _ _ pe_bl)) Zl)) (by trivial)) (@Zj _ _ _ _ _ (@ps_setCompI _ 6 N_law (Zb s_law) ["_law_j","_law_feed_here"] [none,some 2] _ _ _ _ _ _ _ _ _ _ _ _ _ sc_law.nd rfl (by trivial) rfl (@Yi _ _ _ _ _ _ rfl m.range (Zf (@Zy _ _ _ _ _ _ _ _ _ _ g_law_draw hr.m rfl (Zf (pv 2) (Zf Zz Zx rfl) rfl) (by decide) rfl rfl) Zx rfl) (by trivial)) ⟨rfl,rfl,by decide +kernel,by decide +kernel⟩ (fun _ _ _=>(@Zo _ 0 _ _ (show List.Nodup (["_law_j","_law_feed_here"]:List Str) from by decide +kernel) rfl (Or.inl rfl) (by trivial))) (fun _ _ _=>pts_nil) (fun _ _ _=>(@Zy _ _ _ _ _ _ _ _ _ _ g_law_draw hr.m rfl (Zf (pv 1) (Zf (@Za _ _ _ _ _ _ _ Z8 (@Yf _ _ _ _ (Zf Zz (Zf Zz (Zf Zz (Zf Zz (Zf Zz Zx rfl) rfl) rfl) rfl) rfl)) (@Zy _ _ _ _ _ _ _ _ _ _ g_law_draw hr.m rfl (Zf (pv 1) (Zf Zz Zx rfl) rfl) (by decide) rfl rfl) (fun _ _=>rfl)) Zx rfl) rfl) (by decide) rfl rfl)) (by trivial) (by trivial) (by trivial)) (@Zv _ _ _ (@Ze _ _ _ _ _ _ _ _ (@pt_not _ _ _ _ (@pt_val _ _ _ (@Zy _ _ _ _ _ _ _ _ _ _ g_law_right hr.m rfl (Zf (pv 6) Zx rfl) (by decide) rfl rfl) (by intro _; rfl))) (@Zv _ _ _ (@Zc _ _ _ _ pe_bl)) Zl)))))))) (by trivial)) (@Zj _ _ _ _ _ (@Zk _ 2 _ _ _ _ _ sc_law.nd rfl (by trivial) (@Zy _ _ _ _ _ _ _ _ _ _ g_law_feed hr.m rfl (Zf (pv 0) (Zf Zz Zx rfl) rfl) (by decide) rfl rfl) rfl (by trivial)) (@Zj _ _ _ _ _ (@Zk _ 7 _ _ _ _ _ sc_law.nd rfl (by trivial) (@Za _ _ _ _ _ _ _ Z8 (@Yf _ _ _ _ (Zf (@Zn _ _ _ _ _ (Zf Zz (Zf Zz Zx rfl) rfl)) (Zf (@Zn _ _ _ _ _ (Zf Zz (Zf Zz Zx rfl) rfl)) (Zf (@Zn _ _ _ _ _ (Zf Zz (Zf Zz Zx rfl) rfl)) (Zf (@Zn _ _ _ _ _ (Zf Zz (Zf Zz Zx rfl) rfl)) Zx rfl) rfl) rfl) rfl)) (@Zy _ _ _ _ _ _ _ _ _ _ g_law_draw hr.m rfl (Zf (pv 2) (Zf Zz Zx rfl) rfl) (by decide) rfl rfl) (fun _ _=>rfl)) rfl (by trivial)) (@Zj _ _ _ _ _ (@Zk _ 8 _ _ _ _ _ sc_law.nd rfl (by trivial) (@Zy _ _ _ _ _ _ _ _ _ _ g_law_within hr.m rfl (Zf (pv 7) (Zf (@Zy _ _ _ _ _ _ _ _ _ _ g_law_draw hr.m rfl (Zf (pv 2) (Zf Zz Zx rfl) rfl) (by decide) rfl rfl) (Zf (@Zg _ _ _ _ _ _ _ _ Yx Zz (@Zy _ _ _ _ _ _ _ _ _ _ g_law_draw hr.m rfl (Zf (pv 2) (Zf Zz Zx rfl) rfl) (by decide) rfl rfl)) Zx rfl) rfl) rfl) (by decide) rfl rfl) rfl (by trivial)) (@Zj _ _ _ _ _ (@ps_for _ _ _ _ _ _ _ _ PassesOwn.never rfl (@Yi _ _ _ _ _ _ rfl m.range (Zf Zz Zx rfl) (by trivial)) (@Zo _ 5 _ _ sc_law.nd rfl (by trivial) (by trivial)) (@Zv _ _ _ (@Ze _ _ _ _ _ _ _ _ (@pt_not _ _ _ _ (@pt_val _ _ _ (@Zy _ _ _ _ _ _ _ _ _ _ g_law_right hr.m rfl (Zf (@Zg _ _ _ _ _ _ _ _ Vf (@Zg _ _ _ _ _ _ _ _ Vf (@Zn _ _ _ _ _ (Zf (@Zy _ _ _ _ _ _ _ _ _ _ g_law_draw hr.m rfl (Zf (pv 2) (Zf Zz Zx rfl) rfl) (by decide) rfl rfl) Zx rfl)) (@Zy _ _ _ _ _ _ _ _ _ _ g_law_far hr.m rfl (Zf (pv 2) Zx rfl) (by decide) rfl rfl)) (pv 3)) Zx rfl) (by decide) rfl rfl) (by intro _; rfl))) (@Zv _ _ _ (@Zc _ _ _ _ pe_bl)) Zl)) (by trivial)) (@Zv _ _ _ (@Zc _ _ _ _ (@pe_and _ _ _ _ _ _ _ (@Zy _ _ _ _ _ _ _ _ _ _ g_law_right hr.m rfl (Zf (pv 8) Zx rfl) (by decide) rfl rfl) (@pe_and _ _ _ _ _ _ _ (@Zy _ _ _ _ _ _ _ _ _ _ g_law_right hr.m rfl (Zf (@Yf _ _ _ _ Zx) Zx rfl) (by decide) rfl rfl) (@pe_one _ _ _ _ _ (@Zy _ _ _ _ _ _ _ _ _ _ g_law_right hr.m rfl (Zf (@Yf _ _ _ _ (Zf Zz (Zf Zz (Zf Zz (Zf Zz Zx rfl) rfl) rfl) rfl)) Zx rfl) (by decide) rfl rfl))))))))))), ?_⟩
 refine ⟨5,rfl,by decide,by decide,V1 (n:=5) (fun i σ H2=>(∃ o1 o2 o3 o4 o5 o6 o7 o8,σ=[some (.ref a),o1,o2,o3,o4,o5,o6,o7,o8]/\(1<=i->∃ v,o3=some v/\TB K H2 v 300000))/\Zt H H2) ⟨⟨_,_,_,_,_,_,_,_,rfl,fun z=>absurd z (by decide)⟩,Zt.refl H⟩ ?_ ?_⟩
 ·rintro i σ H2 hi ⟨⟨o1,o2,o3,o4,o5,o6,o7,o8,rfl,_⟩,s2⟩
  refine ⟨_,rfl,_,rfl,a,ns,_,rfl,s2.seq hS,h63,by omega,fun l H3 s3 hl0 fe=>?_⟩
  have nl:H l=none:=s2.free hl0
  have s23:Zt H H3:=s2.trans s3
  refine ⟨_,rfl,_,rfl,l,3,rfl,fe,by decide,by decide,fun r4 H4 a4 b4 t4=>?_⟩
  have e4:1+r4=(((1+r4).toNat:Nat):Int):=by omega
  refine ⟨_,_,rfl,rfl,(1+r4).toNat+1,by omega,l,(by rw [<-e4]; rfl),t4.feed,fun v e H5 ie de t5=>?_⟩
  have t05:=t4.trans t5
  generalize hk:(1+r4).toNat+1=k at ie
  have k5:k<=5:=by omega
  obtain ⟨it,rfl,ni⟩:=itm_it k e ie
  have ln:(Ub it).length<=36300:=Nat.le_trans ni.ln (lnB_mono k5)
  have dp:dpI it<=5:=Nat.le_trans ni.dp k5
  have bf:=byt_I it ni.gd (by omega)
  refine ⟨v,it,rfl,de,ni.gd,(show dpI it<=9+1 by omega),by omega,fun pf H6 s6 h6=>?_⟩
  have t06:=t05.same s6
  refine ⟨_,rfl,2,by omega,l,rfl,t06.feed,fun v7 e7 H7 ie7 de7 t7=>?_⟩
  have t07:=t06.trans t7
  obtain ⟨it7,rfl,ni7⟩:=itm_it 2 e7 ie7
  have ln7:(Ub it7).length<=36300:=Nat.le_trans ni7.ln (lnB_mono (by omega))
  have dp7:dpI it7<=2:=ni7.dp
  have bo:=byt_I it7 ni7.gd (by omega)
  refine ⟨v7,it7,rfl,de7,ni7.gd,(show dpI it7<=9+1 by omega),by omega,fun po H8 s8 h8=>?_⟩
  have t08:=t07.same s8
  have f8:Yg K H8 pf (bv (Ub it)):=s8.up _ _ (t7.up t06.feed _ _ h6)
  refine ⟨_,rfl,pf,_,rfl,⟨.inr f8,bf,by omega⟩,fun H9 s9=>?_⟩
  refine ⟨_,rfl,iteF ?_⟩
  have t09:=t08.same s9
  have f9:=s9.up (K:=K) _ _ f8
  have o9:=s9.up (K:=K) _ _ h8
  refine ⟨5,rfl,by decide,by decide,V1 (n:=5) (fun j σ H10=>(∃ o1' o5',σ=[some (.ref a),o1',some (.ref l),some (.ref pf),some (.ref po),o5',o6,o7,o8])/\Y7 l H9 H10) ⟨⟨_,_,rfl⟩,Y7.refl t09.feed⟩ ?_ ?_⟩
  ·rintro j σ H10 hj ⟨⟨o1',o5',rfl⟩,t10⟩
   have u10:=t10.up (K:=K) t09.feed
   refine ⟨_,rfl,_,rfl,_,rfl,l,pf,po,_,_,rfl,t10.feed,u10 _ _ f9,bf,u10 _ _ o9,bo,by omega,by omega,fun r11 bs11 H11 t11 fb11=>?_⟩
   exact ⟨r11,bs11,rfl,fb11,fun H12 s12=>⟨_,rfl,iteF ⟨⟨_,_,rfl⟩,(t10.trans t11).same s12⟩⟩⟩
  ·rintro σ H10 ⟨⟨o1',o5',rfl⟩,t10⟩
   refine ⟨_,rfl,l,12,rfl,t10.feed,by decide,by decide,fun r11 H11 a11 b11 t11=>?_⟩
   refine ⟨_,rfl,by omega,by omega,fun Dd fp sx hD=>?_⟩
   have tD:=t10.trans t11
   have nD:=tD.feed.ne hD
   have hD0:=tD.free t09.feed hD
   refine comp_range (n:=r11.toNat) (fun i ys σ H5=>∃ (o:Option V),σ=[o,some (.ref l)]/\Ve ys/\ys.length=i/\Y7 l H9 H5/\H5 Dd=some (.lst ys)) ⟨_,rfl,fun _ m=>(List.not_mem_nil m).elim,rfl,tD.put nD hD0,Zq⟩ ?_ ?_ ?_
   ·rintro i ys σ H5 hi ⟨o,rfl,ab,l1,t5,h5⟩
    exact h5
   ·rintro i ys σ H5 hi ⟨o,rfl,ab,l1,t5,h5⟩
    refine nameT ?_
    refine ⟨_,rfl,(sz 5),fun lq hq=>?_⟩
    have nq:=t5.feed.ne hq
    have h5q:(Z6 H5 lq (.lst [.int 6,.int 6,.int 4,.int 130,.int 256])) Dd=some (.lst ys):=by rw [Zh (Z5 h5 hq)]; exact h5
    have t5q:=t5.lay (o:=.lst [.int 6,.int 6,.int 4,.int 130,.int 256]) t09.feed hq
    refine ⟨_,rfl,l,5,rfl,t5q.feed,by decide,by decide,fun d0 H6 d00 d01 t6=>?_⟩
    obtain ⟨n,mn,hn⟩:=pickI [6,6,4,130,256] d00 d01
    have n1:4<=n/\n<=256:=by
     simp only [List.mem_cons,List.not_mem_nil,or_false] at mn
     omega
    refine ⟨lq,_,_,_,rfl,rfl,Yc.of (t6.keep _ _ nq Zq),hn,l,n,rfl,t6.feed,by omega,by omega,fun b7 H7 b70 b71 t7=>?_⟩
    refine ⟨t7.keep _ _ nD (t6.keep _ _ nD h5q), ?_,_,rfl,ab.app (Ve.one b70 (by omega)), ?_,(t5q.trans (t6.trans t7)).put nD hD0,Zq⟩
    ·exact Vz (by omega)
    ·rw [List.length_append,List.length_singleton]; omega
   ·rintro ys σ H5 ⟨o,rfl,ab,l1,t5,h5⟩
    obtain ⟨bs,rfl,hb⟩:=ab.bv
    rw [Zu] at l1
    refine ⟨_,rfl,Dd,bs,rfl,⟨.inl (Yc.of h5),hb,by omega⟩,fun H12 s12=>⟨_,rfl,iteF ⟨⟨_,_,_,_,_,_,_,_,rfl,fun _=>⟨_,rfl,pf,_,rfl,s12.up _ _ (t5.up t09.feed _ _ f9),bf,by omega⟩⟩,fun x o hx=>((t09.trans t5).same s12).keep _ _ (Z5 hx nl) (s23 _ _ hx)⟩⟩⟩
 ·rintro σ H2 ⟨⟨o1,o2,o3,o4,o5,o6,o7,o8,rfl,hf⟩,s2⟩
  obtain ⟨v,rfl,tb⟩:=hf (by decide)
  refine ⟨_,rfl,a,ns,6,rfl,s2.seq hS,h63,by decide,fun l H3 s3 hl0 fe=>?_⟩
  have nl:H l=none:=s2.free hl0
  have s23:Zt H H3:=s2.trans s3
  have tb3:=tb.same s3
  dsimp only [tSeq,tAsg,tOp,gName]
  refine bL_ok (K:=K) (n:=2) [[0,2],[2,0],[1,0],[4,0]] (by unfold Byt; decide +kernel) (by decide) (by decide) fun lq vq H4 s4 hq a4 e4=>?_
  have e4:vq.length=4:=e4
  have t4q:=(Y7.refl fe).same s4
  refine ⟨_,rfl,l,4,rfl,t4q.feed,by decide,by decide,fun d0 H5 d00 d01 t5=>?_⟩
  obtain ⟨j,rfl⟩:=Int.eq_ofNat_of_zero_le d00
  have hj:j<vq.length:=by omega
  have nq:lq≠l:=fun z=>by
   obtain ⟨_,_,_,_,hx⟩:=t4q.feed
   rw [z,hx] at hq
   cases hq
   obtain ⟨_,_,e,_⟩:=a4 _ List.mem_cons_self
   cases e
  have tb5:=(a4 _ (List.getElem_mem hj)).up (t5.up t4q.feed)
  refine ⟨lq,_,_,_,rfl,rfl,Yc.of (t5.keep _ _ nq hq),L2.Z1 (List.getElem?_eq_getElem hj), ?_⟩
  generalize vq[j]=vi at tb5
  have t05:=t4q.trans t5
  refine ⟨_,rfl,_,rfl,l,4,rfl,t05.feed,by decide,by decide,fun wd H6 w0 w1 t6=>⟨_,rfl,l,5,rfl,t6.feed,by decide,by decide,fun n7 H7 n70 n71 t7=>⟨_,_,rfl,rfl,vi,wd,_,rfl,(tb5.up (t6.up t05.feed)).up (t7.up t6.feed),w0,by omega,by omega,by omega,fun v8 H8 s8 tb8=>?_⟩⟩⟩
  have t08:=(t05.trans (t6.trans t7)).same s8
  have tbf8:=tb3.up (t08.up fe)
  refine ⟨6,rfl,by decide,by decide,V1 (n:=6) (fun j σ H10=>(∃ o5',σ=[some (.ref a),o1,some (.ref l),some v,o4,o5',o6,some vi,some v8])/\Y7 l H8 H10) ⟨⟨_,rfl⟩,Y7.refl t08.feed⟩ ?_ ?_⟩
  ·rintro j σ H10 hj ⟨⟨o5',rfl⟩,t10⟩
   refine ⟨_,rfl,l,6,rfl,t10.feed,by decide,by decide,fun x H11 x0 x1 t11=>⟨(sz 1),fun t12 h12=>?_⟩⟩
   have s12:=Zt.lay (o:=.tup [.int x]) h12
   have t0c:=(t10.trans t11).same s12
   refine ⟨_,rfl,l,rfl,t0c.feed,fun vf H13 t13 tbf=>?_⟩
   obtain ⟨pq,fbs,rfl,hpq,bq,lq'⟩:=tbf
   have t0d:=t0c.trans t13
   obtain ⟨pz,zbs,rfl,hpz,bz,lz⟩:=tbf8
   have e12:Yg K H13 t12 (bv [x]):=t13.up t0c.feed _ _ (Yg.of Zq)
   refine ⟨t12,pq,_,_,rfl,rfl,e12,hpq,hz _ (by rw [Zu,Zu]; show 1+fbs.length<=_; omega),fun r14 H14 s14 h14=>?_⟩
   refine ⟨_,rfl,r14,pz,_,_,rfl,rfl,h14,s14.up _ _ (t0d.up t08.feed _ _ hpz),hz _ (by rw [List.length_append,Zu,Zu,Zu]; show 1+fbs.length+zbs.length<=_; omega),fun r15 H15 s15 h15=>?_⟩
   have bx:Byt [x]:=byt_cons x0 (by omega) byt_nil
   refine ⟨r15,[x]++fbs++zbs,rfl,⟨.inr (by rw [Uv,Uv]; exact h15),Ut (Ut bx bq) bz, ?_⟩,fun H16 s16=>⟨_,rfl,iteF ⟨⟨_,rfl⟩,t0d.same (s14.trans (s15.trans s16))⟩⟩⟩
   rw [List.length_append,List.length_append]
   show 1+fbs.length+zbs.length<=_
   omega
  ·rintro σ H10 ⟨⟨o5',rfl⟩,t10⟩
   obtain ⟨p8,b8,rfl,h8,by8,l8⟩:=tb8.up (t10.up t08.feed)
   refine ⟨_,rfl,p8,b8,rfl,⟨.inr h8,by8,by omega⟩,fun H11 s11=>?_⟩
   refine ⟨_,rfl,iteT ⟨(sz 0),fun l12 h12=>⟨l12,[],rfl,⟨.inl (Yc.of Zq),byt_nil,by simp⟩,fun H13 s13=>⟨_,rfl,iteT ⟨(sz 4),fun l14 h14=>⟨l14,[5,0,0,2],rfl,⟨.inl (Yc.of Zq),(by unfold Byt; decide),by simp⟩,fun H15 s15=>q H15⟩⟩⟩⟩⟩⟩
end
structure FA (K:W.Frag) (x:Str) (st:Stmt) (f:Addr) (fd:FuncData):Prop where
 a:W.nsIn K mainGlobals x=some (some (.ref f))
 F:Uf K x x st f fd
set_option maxHeartbeats 0 in
theorem all_mk {l:W.OpenLaw} {w:World} {K:W.Frag} {h:Heap} {mg:Str->Option Value} {fa f1 f2 f3 f4 f5 f6 f7 f8 f9 f10 f11 f12 f13 f14 f15 f16 f17 f18 f19 f20 f21 f22 f23 f24 f25 f26 f27 f28 f29 f30 f31 f32 f33 f34 f35 f36 f37 f38 f39 C g1 g2 g3 g4 g5 g6 aS aB M X1 gi1 c1_ c2_ c3_ c4_ c5_ c6_ c7_ c8_ c9_:Addr} {d1 d2 d3 d4 d5 d6 d7 d8 d9 d10 d11 d12 d13 d14 d15 d16 d17 d18 d19 d20 d21 d22 d23 d24 d25 d26 d27 d28 d29 d30 d31 d32 d33 d34 d35 d36 d37 d38 d39 e1 e2 e3 e4 e5 e6 di1:FuncData} (X:K.In h) (G:h.Ns mainGlobals mg) (hfa:mg "law" = some (.ref fa))
  {slS:Array (Option Value)} {nS:Nat} {ts0 ts1 ts2 ts3 ts4 ts5:Tok}
  {nB:Nat} {esB:Array DictEntry} {tm trr:Tok}
  {tk0 tk1 tk2 tk3 tk4 tk5 tk6 tk7:Tok}
  (h1:FA K "long_of" s_long_of f1 d1)
  (h2:FA K "packed" s_packed f2 d2)
  (h3:FA K "pack_item" s_pack_item f3 d3)
  (h4:FA K "pack_label" s_pack_label f4 d4)
  (h5:FA K "pack_signs" s_pack_signs f5 d5)
  (h6:FA K "pack_bytes" s_pack_bytes f6 d6)
  (h7:FA K "folded" s_folded f7 d7)
  (h8:FA K "unfolded" s_unfolded f8 d8)
  (h9:FA K "unpacked" s_unpacked f9 d9)
  (h10:FA K "unpacked_between" Uq f10 d10)
  (h11:FA K "next_item" s_next_item f11 d11)
  (h12:FA K "next_text" s_next_text f12 d12)
  (h13:FA K "next_sign" s_next_sign f13 d13)
  (h14:FA K "next_letter" s_next_letter f14 d14)
  (h15:FA K "next_label" s_next_label f15 d15)
  (h16:FA K "next_number" s_next_number f16 d16)
  (h17:FA K "next_key" s_next_key f17 d17)
  (h18:FA K "_law_feed" s_law_feed f18 d18)
  (h19:FA K "_law_draw" s_law_draw f19 d19)
  (h20:FA K "_law_name" s_law_name f20 d20)
  (h21:FA K "_law_number" s_law_number f21 d21)
  (h22:FA K "_law_whole" s_law_whole f22 d22)
  (h23:FA K "_law_text" s_law_text f23 d23)
  (h24:FA K "_law_item" s_law_item f24 d24)
  (h25:FA K "_law_long" s_law_long f25 d25)
  (h26:FA K "_law_key" s_law_key f26 d26)
  (h27:FA K "_law_packed" s_law_packed f27 d27)
  (h28:FA K "_law_number_at" s_law_number_at f28 d28)
  (h29:FA K "_law_signs_at" Vo f29 d29)
  (h30:FA K "_law_key_at" s_law_key_at f30 d30)
  (h31:FA K "_law_room_at" s_law_room_at f31 d31)
  (h32:FA K "_law_read_at" s_law_read_at f32 d32)
  (h33:FA K "_law_read" s_law_read f33 d33)
  (h34:FA K "_law_spoilt" s_law_spoilt f34 d34)
  (h35:FA K "_law_unpacked" s_law_unpacked f35 d35)
  (h36:FA K "_law_right" s_law_right f36 d36)
  (h37:FA K "_law_within" s_law_within f37 d37)
  (h38:FA K "_law_far" s_law_far f38 d38)
  (h39:FA K "law" s_law f39 d39)
  (aC:W.nsIn K mainGlobals "Reader" = some (some (.ref C)))
  (mj1:W.findIn K (.ref C) "__init__" = some (some (.ref g1)))
  (ij1:W.isFn K (.ref g1)=true)
  (J_init:Uf K "__init__" "Reader.__init__" s_Reader_init g1 e1)
  (mj2:W.findIn K (.ref C) "next_byte" = some (some (.ref g2)))
  (ij2:W.isFn K (.ref g2)=true)
  (J_next_byte:Uf K "next_byte" "Reader.next_byte" Uw g2 e2)
  (mj3:W.findIn K (.ref C) "must" = some (some (.ref g3)))
  (ij3:W.isFn K (.ref g3)=true)
  (J_must:Uf K "must" "Reader.must" s_Reader_must g3 e3)
  (mj4:W.findIn K (.ref C) "next_long" = some (some (.ref g4)))
  (ij4:W.isFn K (.ref g4)=true)
  (J_next_long:Uf K "next_long" "Reader.next_long" Uj g4 e4)
  (mj5:W.findIn K (.ref C) "enter_room" = some (some (.ref g5)))
  (ij5:W.isFn K (.ref g5)=true)
  (J_enter_room:Uf K "enter_room" "Reader.enter_room" V5 g5 e5)
  (mj6:W.findIn K (.ref C) "leave_room" = some (some (.ref g6)))
  (ij6:W.isFn K (.ref g6)=true)
  (J_leave_room:Uf K "leave_room" "Reader.leave_room" V4 g6 e6)
  (pg:W.plainGet K C Str.empty=true)
  (hd:W.hasDictIn K C=true)
  (po:W.plainOver K C=true)
  (sa:W.findIn K (.ref C) "__setattr__" = some (some (.builtin "object.__setattr__")))
  (mk:W.makesIn K C=true)
  (kc:W.keepIn K (.ref C)=true)
  (n1:W.findIn K (.ref C) "source" = some none)
  (n2:W.findIn K (.ref C) "at" = some none)
  (n3:W.findIn K (.ref C) "end" = some none)
  (aM:W.nsIn K mainGlobals "MakeError" = some (some (.ref M)))
  (xm:xOk K M [.ref M] "at" = true)
  (aX1:W.nsIn K mainGlobals "BadByte" = some (some (.ref X1)))
  (iX1:W.findIn K (.ref X1) "__init__" = some (some (.ref gi1)))
  (JX1:Uf K "__init__" "BadByte.__init__" s_BadByte_init gi1 di1)
  (fX1:W.isFn K (.ref gi1)=true)
  (xn1:xOk K X1 [.ref X1,.ref M] "at" = true)
  (aO1:W.nsIn K mainGlobals "BadDeed" = some (some (.ref c1_)))
  (aO2:W.nsIn K mainGlobals "BadItem" = some (some (.ref c2_)))
  (aO3:W.nsIn K mainGlobals "BadText" = some (some (.ref c3_)))
  (aO4:W.nsIn K mainGlobals "NoFile" = some (some (.ref c4_)))
  (aO5:W.nsIn K mainGlobals "NoMove" = some (some (.ref c5_)))
  (aO6:W.nsIn K mainGlobals "NoPlace" = some (some (.ref c6_)))
  (aO7:W.nsIn K mainGlobals "NoRow" = some (some (.ref c7_)))
  (aO8:W.nsIn K mainGlobals "NoTable" = some (some (.ref c8_)))
  (aO9:W.nsIn K mainGlobals "NoValue" = some (some (.ref c9_)))
  (xy:W.kitAny K (.ref X1) [.ref c1_,.ref c2_,.ref c3_,.ref c4_,.ref c5_,.ref c6_,.ref c7_,.ref c8_,.ref c9_]=some false)
  (zn_ValueError:W.nsIn K mainGlobals "ValueError" = some none)
  (aSo:W.nsIn K mainGlobals "SORTS" = some (some (.ref aS)))
  (lSo:K.lookup aS=some ⟨.type "tuple",none,.seq #[.str "whole" ts0,.str "text" ts1,.str "row" ts2,.str "map" ts3,.str "rec" ts4,.str "arm" ts5] nS,slS⟩)
  (aBe:W.nsIn K mainGlobals "BELOW_LABELS" = some (some (.ref aB)))
  (lBe:K.lookup aB=some ⟨.type "dict",none,.dict esB nB, #[]⟩)
  (kBe:W.KeysLit w.params esB.toList)
  (bRw:W.nsIn K aB "row" = some (some .none))
  (bMp:W.nsIn K aB "map" = some (some (.str "" tm)))
  (bRc:W.nsIn K aB "rec" = some (some (.int 0 trr)))
  (y_LETTERS:W.nsIn K mainGlobals "LETTERS" = some (some (.str "abcdefghijklmnopqrstuvwxyz" tk0)))
  (y_SIGNS : W.nsIn K mainGlobals "SIGNS" = some (some (.str " !\"#$&'()*+,-./0123456789:;<=>?\x40ABCDEFGHIJKLMNOPQRSTUVWXYZ[\\]^_`abcdefghijklmnopqrstuvwxyz{|}~" tk1)))
  (y_GREATEST_WHOLE:W.nsIn K mainGlobals "GREATEST_WHOLE" = some (some (.int 1000000000000000000 tk2)))
  (y_GREATEST_NUMBER:W.nsIn K mainGlobals "GREATEST_NUMBER" = some (some (.int 999 tk3)))
  (y_LONGEST_TEXT:W.nsIn K mainGlobals "LONGEST_TEXT" = some (some (.int 200 tk4)))
  (y_LONGEST_NAME:W.nsIn K mainGlobals "LONGEST_NAME" = some (some (.int 8 tk5)))
  (y_DEEPEST:W.nsIn K mainGlobals "DEEPEST" = some (some (.int 100 tk6)))
  (y_GREATEST_SIZE:W.nsIn K mainGlobals "GREATEST_SIZE" = some (some (.int 1000000 tk7)))
  (z_len:W.nsIn K mainGlobals "len" = some none)
  (z_ord:W.nsIn K mainGlobals "ord" = some none)
  (z_max:W.nsIn K mainGlobals "max" = some none)
  (z_sorted:W.nsIn K mainGlobals "sorted" = some none)
  (z_isinstance:W.nsIn K mainGlobals "isinstance" = some none)
  (z_tuple:W.nsIn K mainGlobals "tuple" = some none)
  (z_list:W.nsIn K mainGlobals "list" = some none)
  (z_set:W.nsIn K mainGlobals "set" = some none)
  (z_int:W.nsIn K mainGlobals "int" = some none)
  (z_str:W.nsIn K mainGlobals "str" = some none)
  (z_bool:W.nsIn K mainGlobals "bool" = some none)
  (z_range:W.nsIn K mainGlobals "range" = some none)
  (z_zip:W.nsIn K mainGlobals "zip" = some none)
  (z_reversed:W.nsIn K mainGlobals "reversed" = some none)
  (z_enumerate:W.nsIn K mainGlobals "enumerate" = some none)
  (z_sum:W.nsIn K mainGlobals "sum" = some none)
  : ∃ fd:FuncData,(∀ (s:Shared) (v:Value),BindsTo s fd ⟨[v],[]⟩ [("_law_script",v)])/\∀ base:Heap,K.In base->base.Ns mainGlobals mg->Yj l.prog w K mg base CX0 209 fa fd ["_law_script"] (spLaw K):=by
 have e:=hfa.symm.trans (W.mg_of X G h39.a)
 cases e
 have F_long_of:=h1.F
 have b_long_of:=F_long_of.binds (ps:=["n"]) fun _ _ _ _ _ _ us hl=>match us,hl with | [_],_=>rfl
 have m_long_of:=W.mg_of X G h1.a
 have F_packed:=h2.F
 have b_packed:=F_packed.binds (ps:=["item"]) fun _ _ _ _ _ _ us hl=>match us,hl with | [_],_=>rfl
 have m_packed:=W.mg_of X G h2.a
 have F_pack_item:=h3.F
 have b_pack_item:=F_pack_item.binds (ps:=["backwards","item"]) fun _ _ _ _ _ _ us hl=>match us,hl with | [_,_],_=>rfl
 have m_pack_item:=W.mg_of X G h3.a
 have F_pack_label:=h4.F
 have b_pack_label:=F_pack_label.binds (ps:=["backwards","sort","part"]) fun _ _ _ _ _ _ us hl=>match us,hl with | [_,_,_],_=>rfl
 have m_pack_label:=W.mg_of X G h4.a
 have F_pack_signs:=h5.F
 have b_pack_signs:=F_pack_signs.binds (ps:=["backwards","text"]) fun _ _ _ _ _ _ us hl=>match us,hl with | [_,_],_=>rfl
 have m_pack_signs:=W.mg_of X G h5.a
 have F_pack_bytes:=h6.F
 have b_pack_bytes:=F_pack_bytes.binds (ps:=["backwards","codes"]) fun _ _ _ _ _ _ us hl=>match us,hl with | [_,_],_=>rfl
 have m_pack_bytes:=W.mg_of X G h6.a
 have F_folded:=h7.F
 have b_folded:=F_folded.binds (ps:=["n"]) fun _ _ _ _ _ _ us hl=>match us,hl with | [_],_=>rfl
 have m_folded:=W.mg_of X G h7.a
 have F_unfolded:=h8.F
 have b_unfolded:=F_unfolded.binds (ps:=["n"]) fun _ _ _ _ _ _ us hl=>match us,hl with | [_],_=>rfl
 have m_unfolded:=W.mg_of X G h8.a
 have F_unpacked:=h9.F
 have b_unpacked:=F_unpacked.binds (ps:=["file"]) fun _ _ _ _ _ _ us hl=>match us,hl with | [_],_=>rfl
 have m_unpacked:=W.mg_of X G h9.a
 have F_unpacked_between:=h10.F
 have b_unpacked_between:=F_unpacked_between.binds (ps:=["file","begin","end"]) fun _ _ _ _ _ _ us hl=>match us,hl with | [_,_,_],_=>rfl
 have m_unpacked_between:=W.mg_of X G h10.a
 have F_next_item:=h11.F
 have b_next_item:=F_next_item.binds (ps:=["reader","deep"]) fun _ _ _ _ _ _ us hl=>match us,hl with | [_,_],_=>rfl
 have m_next_item:=W.mg_of X G h11.a
 have F_next_text:=h12.F
 have b_next_text:=F_next_text.binds (ps:=["reader"]) fun _ _ _ _ _ _ us hl=>match us,hl with | [_],_=>rfl
 have m_next_text:=W.mg_of X G h12.a
 have F_next_sign:=h13.F
 have b_next_sign:=F_next_sign.binds (ps:=["reader"]) fun _ _ _ _ _ _ us hl=>match us,hl with | [_],_=>rfl
 have m_next_sign:=W.mg_of X G h13.a
 have F_next_letter:=h14.F
 have b_next_letter:=F_next_letter.binds (ps:=["reader"]) fun _ _ _ _ _ _ us hl=>match us,hl with | [_],_=>rfl
 have m_next_letter:=W.mg_of X G h14.a
 have F_next_label:=h15.F
 have b_next_label:=F_next_label.binds (ps:=["reader","sort","last"]) fun _ _ _ _ _ _ us hl=>match us,hl with | [_,_,_],_=>rfl
 have m_next_label:=W.mg_of X G h15.a
 have F_next_number:=h16.F
 have b_next_number:=F_next_number.binds (ps:=["reader","last"]) fun _ _ _ _ _ _ us hl=>match us,hl with | [_,_],_=>rfl
 have m_next_number:=W.mg_of X G h16.a
 have F_next_key:=h17.F
 have b_next_key:=F_next_key.binds (ps:=["reader","last"]) fun _ _ _ _ _ _ us hl=>match us,hl with | [_,_],_=>rfl
 have m_next_key:=W.mg_of X G h17.a
 have F_law_feed:=h18.F
 have b_law_feed:=F_law_feed.binds (ps:=["_law_script","_law_k"]) fun _ _ _ _ _ _ us hl=>match us,hl with | [_,_],_=>rfl
 have m_law_feed:=W.mg_of X G h18.a
 have F_law_draw:=h19.F
 have b_law_draw:=F_law_draw.binds (ps:=["_law_feed_here","_law_many"]) fun _ _ _ _ _ _ us hl=>match us,hl with | [_,_],_=>rfl
 have m_law_draw:=W.mg_of X G h19.a
 have F_law_name:=h20.F
 have b_law_name:=F_law_name.binds (ps:=["_law_feed_here"]) fun _ _ _ _ _ _ us hl=>match us,hl with | [_],_=>rfl
 have m_law_name:=W.mg_of X G h20.a
 have F_law_number:=h21.F
 have b_law_number:=F_law_number.binds (ps:=["_law_feed_here"]) fun _ _ _ _ _ _ us hl=>match us,hl with | [_],_=>rfl
 have m_law_number:=W.mg_of X G h21.a
 have F_law_whole:=h22.F
 have b_law_whole:=F_law_whole.binds (ps:=["_law_feed_here"]) fun _ _ _ _ _ _ us hl=>match us,hl with | [_],_=>rfl
 have m_law_whole:=W.mg_of X G h22.a
 have F_law_text:=h23.F
 have b_law_text:=F_law_text.binds (ps:=["_law_feed_here"]) fun _ _ _ _ _ _ us hl=>match us,hl with | [_],_=>rfl
 have m_law_text:=W.mg_of X G h23.a
 have F_law_item:=h24.F
 have b_law_item:=F_law_item.binds (ps:=["_law_feed_here","_law_deep"]) fun _ _ _ _ _ _ us hl=>match us,hl with | [_,_],_=>rfl
 have m_law_item:=W.mg_of X G h24.a
 have F_law_long:=h25.F
 have b_law_long:=F_law_long.binds (ps:=["_law_n"]) fun _ _ _ _ _ _ us hl=>match us,hl with | [_],_=>rfl
 have m_law_long:=W.mg_of X G h25.a
 have F_law_key:=h26.F
 have b_law_key:=F_law_key.binds (ps:=["_law_key_here"]) fun _ _ _ _ _ _ us hl=>match us,hl with | [_],_=>rfl
 have m_law_key:=W.mg_of X G h26.a
 have F_law_packed:=h27.F
 have b_law_packed:=F_law_packed.binds (ps:=["_law_item_here"]) fun _ _ _ _ _ _ us hl=>match us,hl with | [_],_=>rfl
 have m_law_packed:=W.mg_of X G h27.a
 have F_law_number_at:=h28.F
 have b_law_number_at:=F_law_number_at.binds (ps:=["_law_file","_law_place","_law_end","_law_most"]) fun _ _ _ _ _ _ us hl=>match us,hl with | [_,_,_,_],_=>rfl
 have m_law_number_at:=W.mg_of X G h28.a
 have F_law_signs_at:=h29.F
 have b_law_signs_at:=F_law_signs_at.binds (ps:=["_law_file","_law_place","_law_end","_law_many","_law_signs"]) fun _ _ _ _ _ _ us hl=>match us,hl with | [_,_,_,_,_],_=>rfl
 have m_law_signs_at:=W.mg_of X G h29.a
 have F_law_key_at:=h30.F
 have b_law_key_at:=F_law_key_at.binds (ps:=["_law_file","_law_place","_law_end","_law_head"]) fun _ _ _ _ _ _ us hl=>match us,hl with | [_,_,_,_],_=>rfl
 have m_law_key_at:=W.mg_of X G h30.a
 have F_law_room_at:=h31.F
 have b_law_room_at:=F_law_room_at.binds (ps:=["_law_file","_law_place","_law_end","_law_head","_law_deep"]) fun _ _ _ _ _ _ us hl=>match us,hl with | [_,_,_,_,_],_=>rfl
 have m_law_room_at:=W.mg_of X G h31.a
 have F_law_read_at:=h32.F
 have b_law_read_at:=F_law_read_at.binds (ps:=["_law_file","_law_place","_law_end","_law_deep"]) fun _ _ _ _ _ _ us hl=>match us,hl with | [_,_,_,_],_=>rfl
 have m_law_read_at:=W.mg_of X G h32.a
 have F_law_read:=h33.F
 have b_law_read:=F_law_read.binds (ps:=["_law_file"]) fun _ _ _ _ _ _ us hl=>match us,hl with | [_],_=>rfl
 have m_law_read:=W.mg_of X G h33.a
 have F_law_spoilt:=h34.F
 have b_law_spoilt:=F_law_spoilt.binds (ps:=["_law_feed_here","_law_file","_law_other"]) fun _ _ _ _ _ _ us hl=>match us,hl with | [_,_,_],_=>rfl
 have m_law_spoilt:=W.mg_of X G h34.a
 have F_law_unpacked:=h35.F
 have b_law_unpacked:=F_law_unpacked.binds (ps:=["_law_file"]) fun _ _ _ _ _ _ us hl=>match us,hl with | [_],_=>rfl
 have m_law_unpacked:=W.mg_of X G h35.a
 have F_law_right:=h36.F
 have b_law_right:=F_law_right.binds (ps:=["_law_some"]) fun _ _ _ _ _ _ us hl=>match us,hl with | [_],_=>rfl
 have m_law_right:=W.mg_of X G h36.a
 have F_law_within:=h37.F
 have b_law_within:=F_law_within.binds (ps:=["_law_file","_law_word","_law_many"]) fun _ _ _ _ _ _ us hl=>match us,hl with | [_,_,_],_=>rfl
 have m_law_within:=W.mg_of X G h37.a
 have F_law_far:=h38.F
 have b_law_far:=F_law_far.binds (ps:=["_law_feed_here"]) fun _ _ _ _ _ _ us hl=>match us,hl with | [_],_=>rfl
 have m_law_far:=W.mg_of X G h38.a
 have F_law:=h39.F
 have d_init:=J_init.binds (ps:=["self","source","at","end"]) fun _ _ _ _ _ _ us hl=>match us,hl with | [_,_,_,_],_=>rfl
 have M_init:Meth K C "__init__" g1:=⟨mj1,ij1,J_init.kp⟩
 have d_next_byte:=J_next_byte.binds (ps:=["self"]) fun _ _ _ _ _ _ us hl=>match us,hl with | [_],_=>rfl
 have M_next_byte:Meth K C "next_byte" g2:=⟨mj2,ij2,J_next_byte.kp⟩
 have d_must:=J_must.binds (ps:=["self","right"]) fun _ _ _ _ _ _ us hl=>match us,hl with | [_,_],_=>rfl
 have M_must:Meth K C "must" g3:=⟨mj3,ij3,J_must.kp⟩
 have d_next_long:=J_next_long.binds (ps:=["self","most"]) fun _ _ _ _ _ _ us hl=>match us,hl with | [_,_],_=>rfl
 have M_next_long:Meth K C "next_long" g4:=⟨mj4,ij4,J_next_long.kp⟩
 have d_enter_room:=J_enter_room.binds (ps:=["self"]) fun _ _ _ _ _ _ us hl=>match us,hl with | [_],_=>rfl
 have M_enter_room:Meth K C "enter_room" g5:=⟨mj5,ij5,J_enter_room.kp⟩
 have d_leave_room:=J_leave_room.binds (ps:=["self","around"]) fun _ _ _ _ _ _ us hl=>match us,hl with | [_,_],_=>rfl
 have M_leave_room:Meth K C "leave_room" g6:=⟨mj6,ij6,J_leave_room.kp⟩
 have m:Bn mg:=⟨W.mg_none_of X G z_len,W.mg_none_of X G z_ord,W.mg_none_of X G z_max,W.mg_none_of X G z_sorted,W.mg_none_of X G z_isinstance,W.mg_none_of X G z_tuple,W.mg_none_of X G z_list,W.mg_none_of X G z_set,W.mg_none_of X G z_int,W.mg_none_of X G z_str,W.mg_none_of X G z_bool,W.mg_none_of X G z_range,W.mg_none_of X G z_zip,W.mg_none_of X G z_reversed,W.mg_none_of X G z_enumerate,W.mg_none_of X G z_sum⟩
 have c:Cn mg:=⟨⟨_,W.mg_of X G y_LETTERS⟩,⟨_,W.mg_of X G y_SIGNS⟩,⟨_,W.mg_of X G y_GREATEST_WHOLE⟩,⟨_,W.mg_of X G y_GREATEST_NUMBER⟩,⟨_,W.mg_of X G y_LONGEST_TEXT⟩,⟨_,W.mg_of X G y_LONGEST_NAME⟩,⟨_,W.mg_of X G y_DEEPEST⟩,⟨_,W.mg_of X G y_GREATEST_SIZE⟩⟩
 have cl:Cls K C:=⟨pg,hd,po,sa⟩
 have co:RdOk K C:=⟨cl,n1,n2,n3⟩
 have x_BELOW:=W.mg_of X G aBe
 have bo:BelowOk K w aB:=⟨⟨⟨esB,nB,lBe,kBe⟩⟩,fun s hs=>match s,hs with
  | 0,_=>⟨_,bRw,rfl⟩
  | 1,_=>⟨_,bMp,⟨_,rfl⟩⟩
  | 2,_=>⟨_,bRc,⟨_,rfl⟩⟩⟩
 have so:SortsOk K aS:=⟨⟨_,_,_,lSo,rfl,rfl,rfl,(sz 6),.cons ⟨_,rfl⟩ (.cons ⟨_,rfl⟩ (.cons ⟨_,rfl⟩ (.cons ⟨_,rfl⟩ (.cons ⟨_,rfl⟩ (.cons ⟨_,rfl⟩ .nil)))))⟩⟩
 have x_SORTS:=W.mg_of X G aSo
 have om:=xok_of (as:=[]) xm
 have bi1:=JX1.binds (ps:=["self","at"]) fun _ _ _ _ _ _ us hl=>match us,hl with | [_,_],_=>rfl
 have on1:=xok_of (as:=[M]) xn1
 have mk1:XMk K X1 gi1:=⟨on1.made,iX1,fX1,on1.kp⟩
 have xx:Exs K M X1 [c1_,c2_,c3_,c4_,c5_,c6_,c7_,c8_,c9_]:=⟨om.xc,on1.xc,on1.up,kit_self,on1.ve,xy,on1.no⟩
 obtain ⟨oc,od,kV,doc,pm,an,cdv,ct,osl,rfl,lk,hcd⟩:=F_law.ex
 refine ⟨W.fnOf "law" "law" (defArgs s_law) (defBody s_law) (Zb s_law) .none kV doc pm an cdv ct,fun s v=>.of_eq rfl,fun base _ _=>?_⟩
 have g_long:Fn l.prog w K mg base 1 "long_of" ["n"] spLong:=⟨_,_,ok_long F_long_of m,b_long_of,F_long_of.kp,m_long_of⟩
 have g_pby:Fn l.prog w K mg base 1 "pack_bytes" ["backwards","codes"] (spBytes K):=⟨_,_,ok_pack_bytes F_pack_bytes m,b_pack_bytes,F_pack_bytes.kp,m_pack_bytes⟩
 have g_psi:Fn l.prog w K mg base 2 "pack_signs" ["backwards","text"] spSigns:=⟨_,_,ok_pack_signs F_pack_signs m g_pby g_long,b_pack_signs,F_pack_signs.kp,m_pack_signs⟩
 have g_pla:Fn l.prog w K mg base 3 "pack_label" ["backwards","sort","part"] (spLabel K):=⟨_,_,ok_pack_label F_pack_label g_pby g_long g_psi,b_pack_label,F_pack_label.kp,m_pack_label⟩
 have g_fol:Fn l.prog w K mg base 1 "folded" ["n"] spFold:=⟨_,_,ok_folded F_folded,b_folded,F_folded.kp,m_folded⟩
 have g_pit:Fn l.prog w K mg base (100+5) "pack_item" ["backwards","item"] (spPack K (100+1)):=⟨_,_,ok_pack_item F_pack_item m so x_SORTS b_pack_item m_pack_item g_pby g_long g_psi g_pla g_fol 101,b_pack_item,F_pack_item.kp,m_pack_item⟩
 have g_pac:Fn l.prog w K mg base 106 "packed" ["item"] (spPacked K 100):=⟨_,_,ok_packed F_packed m g_pit,b_packed,F_packed.kp,m_packed⟩
 have f_i:Yj l.prog w K mg base CX0 1 gi1 _ ["self","at"] (spXInit X1):=ok_xinit JX1 on1.xc on1.no
 have x_BB:=W.mg_of X G aX1
 have r_nb:MFnX l.prog w K mg base 3 C "next_byte" ["self"] (spNByte K C X1):=⟨_,_,cl,M_next_byte,ok_nbyte J_next_byte co on1.xc mk1 f_i x_BB bi1,d_next_byte⟩
 have r_mu:MFnX l.prog w K mg base 3 C "must" ["self","right"] (spMust K C X1):=⟨_,_,cl,M_must,ok_must J_must co on1.xc mk1 f_i x_BB bi1,d_must⟩
 have r_nl:MFnX l.prog w K mg base 4 C "next_long" ["self","most"] (spNLong K C X1):=⟨_,_,cl,M_next_long,ok_nlong J_next_long co r_nb r_mu,d_next_long⟩
 have r_en:MFnX l.prog w K mg base 5 C "enter_room" ["self"] (spEnter K C X1):=⟨_,_,cl,M_enter_room,ok_enter J_enter_room co c r_nl r_mu,d_enter_room⟩
 have r_le:MFn l.prog w K mg base 1 C "leave_room" ["self","around"] (spLeave K C):=⟨_,_,cl,M_leave_room,ok_leave J_leave_room co,d_leave_room⟩
 have r_mk:CFn l.prog w K mg base 1 C "Reader" ["self","source","at","end"] (spInit K C):=⟨_,_,⟨mk,mj1,ij1,kc⟩,ok_init J_init co,d_init,W.mg_of X G aC⟩
 have g_unf:Fn l.prog w K mg base 1 "unfolded" ["n"] spUnf:=⟨_,_,ok_unfolded F_unfolded,b_unfolded,F_unfolded.kp,m_unfolded⟩
 have g_nsi:FnX l.prog w K mg base 4 "next_sign" ["reader"] (spSign K C X1 Ug):=⟨_,_,ok_next_sign F_next_sign c r_nb r_mu,b_next_sign,F_next_sign.kp,m_next_sign⟩
 have g_nle:FnX l.prog w K mg base 4 "next_letter" ["reader"] (spSign K C X1 gLow):=⟨_,_,ok_next_letter F_next_letter c r_nb r_mu,b_next_letter,F_next_letter.kp,m_next_letter⟩
 have g_ntx:FnX l.prog w K mg base 5 "next_text" ["reader"] (spNText K C X1):=⟨_,_,ok_next_text F_next_text m c r_nl g_nsi,b_next_text,F_next_text.kp,m_next_text⟩
 have g_nnu:FnX l.prog w K mg base 5 "next_number" ["reader","last"] (spNNum K C X1):=⟨_,_,ok_next_number F_next_number c r_nl r_mu,b_next_number,F_next_number.kp,m_next_number⟩
 have g_nke:FnX l.prog w K mg base 5 "next_key" ["reader","last"] (spNKey K C X1):=⟨_,_,ok_next_key F_next_key m c r_nl r_mu g_nle,b_next_key,F_next_key.kp,m_next_key⟩
 have g_nla:FnX l.prog w K mg base 6 "next_label" ["reader","sort","last"] (spNLabel K C X1):=⟨_,_,ok_next_label F_next_label g_nnu g_nke,b_next_label,F_next_label.kp,m_next_label⟩
 have g_nit:FnX l.prog w K mg base 108 "next_item" ["reader","deep"] (spNItem K C X1 100):=⟨_,_,ok_next_item F_next_item m c co so x_SORTS bo x_BELOW b_next_item m_next_item r_nb r_mu r_nl r_en r_le g_unf g_ntx g_nnu g_nla 100,b_next_item,F_next_item.kp,m_next_item⟩
 have g_btw:FnX l.prog w K mg base 109 "unpacked_between" ["file","begin","end"] (spBetween K X1):=⟨_,_,ok_between F_unpacked_between co on1.xc mk1 f_i x_BB bi1 r_mk g_nit,b_unpacked_between,F_unpacked_between.kp,m_unpacked_between⟩
 have g_unp:FnX l.prog w K mg base 110 "unpacked" ["file"] (spUnpacked K X1):=⟨_,_,ok_unpacked F_unpacked m g_btw,b_unpacked,F_unpacked.kp,m_unpacked⟩
 have g_llo:Fn l.prog w K mg base 1 "_law_long" ["_law_n"] spLong:=⟨_,_,ok_llong F_law_long m,b_law_long,F_law_long.kp,m_law_long⟩
 have g_lke:Fn l.prog w K mg base 2 "_law_key" ["_law_key_here"] (spKey K):=⟨_,_,ok_law_key F_law_key m g_llo,b_law_key,F_law_key.kp,m_law_key⟩
 have g_lpa:Fn l.prog w K mg base 13 "_law_packed" ["_law_item_here"] (spLPack K (9+1)):=⟨_,_,ok_law_packed F_law_packed m b_law_packed m_law_packed g_llo g_lke 10,b_law_packed,F_law_packed.kp,m_law_packed⟩
 have gf:Fn l.prog w K mg base 1 "_law_feed" ["_law_script","_law_k"] (spFeed K):=⟨_,_,ok_feed F_law_feed m,b_law_feed,F_law_feed.kp,m_law_feed⟩
 have gr:Fn l.prog w K mg base 1 "_law_draw" ["_law_feed_here","_law_many"] spDraw:=⟨_,_,ok_draw F_law_draw,b_law_draw,F_law_draw.kp,m_law_draw⟩
 have gn:Fn l.prog w K mg base 2 "_law_name" ["_law_feed_here"] (spStrD nameOk):=⟨_,_,ok_name F_law_name m gr,b_law_name,F_law_name.kp,m_law_name⟩
 have gt:Fn l.prog w K mg base 2 "_law_text" ["_law_feed_here"] (spStrD textOk):=⟨_,_,ok_text F_law_text m gr,b_law_text,F_law_text.kp,m_law_text⟩
 have gu:Fn l.prog w K mg base 2 "_law_number" ["_law_feed_here"] (spIntD fun n=>1<=n/\n<=999):=⟨_,_,ok_number F_law_number m gr,b_law_number,F_law_number.kp,m_law_number⟩
 have gw:Fn l.prog w K mg base 2 "_law_whole" ["_law_feed_here"] (spIntD fun n=>-1000000000000000000<=n/\n<=1000000000000000000):=⟨_,_,ok_whole F_law_whole m gr,b_law_whole,F_law_whole.kp,m_law_whole⟩
 have git:Fn l.prog w K mg base 7 "_law_item" ["_law_feed_here","_law_deep"] (fun vs H Q E=>∃ d,d<=5/\spI K Gd d vs H Q E):=⟨_,_,Yj.any (C:=fun d=>d<=5) fun d hd=>(ok_item F_law_item m b_law_item m_law_item gr gn gt gu gw d).mono (by omega),b_law_item,F_law_item.kp,m_law_item⟩
 have g_nat:Fn l.prog w K mg base 1 "_law_number_at" ["_law_file","_law_place","_law_end","_law_most"] (spNumAt K):=⟨_,_,ok_number_at F_law_number_at m,b_law_number_at,F_law_number_at.kp,m_law_number_at⟩
 have g_sat:Fn l.prog w K mg base 1 "_law_signs_at" ["_law_file","_law_place","_law_end","_law_many","_law_signs"] (spSigAt K):=⟨_,_,ok_signs_at F_law_signs_at m,b_law_signs_at,F_law_signs_at.kp,m_law_signs_at⟩
 have g_kat:Fn l.prog w K mg base 2 "_law_key_at" ["_law_file","_law_place","_law_end","_law_head"] (spKeyAt K):=⟨_,_,ok_key_at F_law_key_at g_nat g_sat,b_law_key_at,F_law_key_at.kp,m_law_key_at⟩
 have g_rm0:Fn l.prog w K mg base 5 "_law_room_at" ["_law_file","_law_place","_law_end","_law_head","_law_deep"] (fun _ _ _ _=>False):=⟨_,_,⟨fun vs H Q E h=>h.elim,fun A outer s H args us vs Q E _ _ _ _ h=>h.elim⟩,b_law_room_at,F_law_room_at.kp,m_law_room_at⟩
 have g_rm:∀ (n k0:Nat),Fn l.prog w K mg base (k0+3) "_law_read_at" ["_law_file","_law_place","_law_end","_law_deep"] (spReadAt K n)->Fn l.prog w K mg base (k0+4) "_law_room_at" ["_law_file","_law_place","_law_end","_law_head","_law_deep"] (spRoomAt K n):=fun n k0 gq=>⟨_,_,ok_room_at F_law_room_at m g_kat gq,b_law_room_at,F_law_room_at.kp,m_law_room_at⟩
 have g_rat:Fn l.prog w K mg base 206 "_law_read_at" ["_law_file","_law_place","_law_end","_law_deep"] (spReadAt K 100):=⟨_,_,ok_read_at F_law_read_at b_law_read_at m_law_read_at g_nat g_sat g_rm0 g_rm 100,b_law_read_at,F_law_read_at.kp,m_law_read_at⟩
 have g_rea:Fn l.prog w K mg base 207 "_law_read" ["_law_file"] (spRead K):=⟨_,_,ok_read F_law_read m g_rat,b_law_read,F_law_read.kp,m_law_read⟩
 have g_lun:Fn l.prog w K mg base 111 "_law_unpacked" ["_law_file"] (spRead K):=⟨_,_,ok_unp F_law_unpacked m (W.mg_none_of X G zn_ValueError) xx g_unp (W.mg_of X G aM) x_BB (W.mg_of X G aO1) (W.mg_of X G aO2) (W.mg_of X G aO3) (W.mg_of X G aO4) (W.mg_of X G aO5) (W.mg_of X G aO6) (W.mg_of X G aO7) (W.mg_of X G aO8) (W.mg_of X G aO9),b_law_unpacked,F_law_unpacked.kp,m_law_unpacked⟩
 have g_rig:Fn l.prog w K mg base 208 "_law_right" ["_law_some"] (spRight K):=⟨_,_,ok_right F_law_right m g_rea g_lun g_pac,b_law_right,F_law_right.kp,m_law_right⟩
 have g_spo:Fn l.prog w K mg base 2 "_law_spoilt" ["_law_feed_here","_law_file","_law_other"] (spSpoilt K):=⟨_,_,ok_spoilt F_law_spoilt m gr,b_law_spoilt,F_law_spoilt.kp,m_law_spoilt⟩
 have g_win:Fn l.prog w K mg base 2 "_law_within" ["_law_file","_law_word","_law_many"] (spWithin K):=⟨_,_,ok_within F_law_within m g_llo,b_law_within,F_law_within.kp,m_law_within⟩
 have g_far:Fn l.prog w K mg base 2 "_law_far" ["_law_feed_here"] (spFar K):=⟨_,_,ok_far F_law_far m gr,b_law_far,F_law_far.kp,m_law_far⟩
 exact ok_law F_law m gf gr git g_lpa g_rig g_spo g_win g_far
theorem walk {l:W.OpenLaw} {q:Program} {loose:List Str} {XP:(Str->Option Value)->Heap->Prop} {YP:World->Heap->Prop} {d:DefRec} {K:Params->W.Frag} (hn:l.most=some 63) (hdf:d.params.defaults=[])
  (hY:∀ (w:World) (h:Heap),YP w h->(K w.params).In h)
  (F:∀ (w:World) (mg:Str->Option Value) (fa:Addr) (h:Heap),(K w.params).In h->h.Ns mainGlobals mg->mg d.name=some (.ref fa) ->
   ∃ fd:FuncData,(∀ (s:Shared) (u:Value),BindsTo s fd ⟨[u],[]⟩ [("_law_script",u)])/\∀ base:Heap,(K w.params).In base->base.Ns mainGlobals mg->Yj l.prog w (K w.params) mg base CX0 209 fa fd ["_law_script"] (spLaw (K w.params))) :
  W.WalkO q loose XP YP l.row.toRowW d [] (fun f vs=>PySem.call f vs) :=
 L2.walk_of (n:=63) (k:=209) (x:="_law_script") (CX:=fun _=>CX0) (sp:=fun w=>spLaw (K w.params)) hn (by decide) hdf ⟨rfl,by decide,by decide⟩ hY F (fun _ _ a ns hl _ hS=>⟨a,ns,rfl,hS,hl,fun _=>rfl⟩) fun _ _ _ _ _ z=>z
end K05
open PySem PySem.W PyProof.Rows
set_option maxRecDepth 100000 in
set_option maxHeartbeats 0 in
theorem K05.ws:PySem.Challenge.rw_makes_k05_whole_any_bytes.wellSaid=true:=by
 delta OpenLaw.wellSaid
 refine look_both (look_both (look_both (look_both (look_both (look_both (look_both (look_both (look_both (look_both (look_both (look_both (look_both (look_both (look_both (look_both (look_both (look_both ?_ ?_) ?_) ?_) ?_) ?_) ?_) ?_) ?_) ?_) ?_) ?_) ?_) ?_) ?_) ?_) ?_) ?_) ?_
 case _=>
  delta OpenRow.wellSaid
  refine look_both (look_both ?_ ?_) ?_
  case _=>
   delta OpenRow.partSaid
   refine look_both (look_both (look_both (look_both (look_both (look_both (look_both (look_both (look_both (look_both (look_both (look_both (look_both ?_ ?_) ?_) ?_) ?_) ?_) ?_) ?_) ?_) ?_) ?_) ?_) ?_) ?_
   case _=>
    delta looksOpen
    refine look_both (look_both (look_both (look_both (look_both ?_ ?_) ?_) ?_) ?_) ?_
    all_goals decide +kernel
   all_goals decide +kernel
  all_goals decide +kernel
 all_goals decide +kernel
set_option maxRecDepth 100000 in
set_option maxHeartbeats 0 in
theorem PySem.Challenge.cw_makes_k05_whole_any_bytes_holds : PySem.Challenge.rw_makes_k05_whole_any_bytes.Holds := by
 w_on
 refine holds_law K05.ws fun said=>?_
 refine holds_open (q:=K05.viewK) (loose:=K05.Vr) (XP:=XL K05.viewK []) (YP:=Hook.says (W.kHook K05.heapK K05.asK K05.asK_eq)) (N:=8816)
  K05.leftK (Hook.of (W.kHook K05.heapK K05.asK K05.asK_eq)) (Hook.keeps (W.kHook K05.heapK K05.asK K05.asK_eq)) (fun s e=>xl_of s (Bool.and_eq_true_iff.mp e).1)
  XL.keeps (by rfl) (by rfl) (by rfl) (fun s e=>recFacts_of (Bool.and_eq_true_iff.mp e).2) (by rfl) (by assumption)
  (by decide +kernel) ⟨rfl,rfl,rfl,rfl,rfl,by decide +kernel⟩ ?hw ?hc
 case hw=>w_witness2
 k_fill
 refine K05.walk (l:=PySem.Challenge.rw_makes_k05_whole_any_bytes) rfl rfl (fun w h Y=>W.kIn_of Y) ?F
 case F =>
  intro w mg fa h KX G hmg
  refine' K05.all_mk KX G hmg ?h1 ?h2 ?h3 ?h4 ?h5 ?h6 ?h7 ?h8 ?h9 ?h10 ?h11 ?h12 ?h13 ?h14 ?h15 ?h16 ?h17 ?h18 ?h19 ?h20 ?h21 ?h22 ?h23 ?h24 ?h25 ?h26 ?h27 ?h28 ?h29 ?h30 ?h31 ?h32 ?h33 ?h34 ?h35 ?h36 ?h37 ?h38 ?h39 ?aC ?mj1 ?ij1 ?J_init ?mj2 ?ij2 ?J_next_byte ?mj3 ?ij3 ?J_must ?mj4 ?ij4 ?J_next_long ?mj5 ?ij5 ?J_enter_room ?mj6 ?ij6 ?J_leave_room ?pg ?hd ?po ?sa ?mk ?kc ?n1 ?n2 ?n3 ?aM ?xm ?aX1 ?iX1 ?JX1 ?fX1 ?xn1 ?aO1 ?aO2 ?aO3 ?aO4 ?aO5 ?aO6 ?aO7 ?aO8 ?aO9 ?xy ?zn_ValueError ?aSo ?lSo ?aBe ?lBe ?kBe ?bRw ?bMp ?bRc ?y_LETTERS ?y_SIGNS ?y_GREATEST_WHOLE ?y_GREATEST_NUMBER ?y_LONGEST_TEXT ?y_LONGEST_NAME ?y_DEEPEST ?y_GREATEST_SIZE ?z_len ?z_ord ?z_max ?z_sorted ?z_isinstance ?z_tuple ?z_list ?z_set ?z_int ?z_str ?z_bool ?z_range ?z_zip ?z_reversed ?z_enumerate ?z_sum
  (case h1=>exact ⟨by k_is,L2.Z3 (by k_is) (by k_is) (by k_is)⟩); (case h2=>exact ⟨by k_is,L2.Z3 (by k_is) (by k_is) (by k_is)⟩)
  (case h3=>exact ⟨by k_is,L2.Z3 (by k_is) (by k_is) (by k_is)⟩); (case h4=>exact ⟨by k_is,L2.Z3 (by k_is) (by k_is) (by k_is)⟩)
  (case h5=>exact ⟨by k_is,L2.Z3 (by k_is) (by k_is) (by k_is)⟩); (case h6=>exact ⟨by k_is,L2.Z3 (by k_is) (by k_is) (by k_is)⟩)
  (case h7=>exact ⟨by k_is,L2.Z3 (by k_is) (by k_is) (by k_is)⟩); (case h8=>exact ⟨by k_is,L2.Z3 (by k_is) (by k_is) (by k_is)⟩)
  (case h9=>exact ⟨by k_is,L2.Z3 (by k_is) (by k_is) (by k_is)⟩); (case h10=>exact ⟨by k_is,L2.Z3 (by k_is) (by k_is) (by k_is)⟩)
  (case h11=>exact ⟨by k_is,L2.Z3 (by k_is) (by k_is) (by k_is)⟩); (case h12=>exact ⟨by k_is,L2.Z3 (by k_is) (by k_is) (by k_is)⟩)
  (case h13=>exact ⟨by k_is,L2.Z3 (by k_is) (by k_is) (by k_is)⟩); (case h14=>exact ⟨by k_is,L2.Z3 (by k_is) (by k_is) (by k_is)⟩)
  (case h15=>exact ⟨by k_is,L2.Z3 (by k_is) (by k_is) (by k_is)⟩); (case h16=>exact ⟨by k_is,L2.Z3 (by k_is) (by k_is) (by k_is)⟩)
  (case h17=>exact ⟨by k_is,L2.Z3 (by k_is) (by k_is) (by k_is)⟩); (case h18=>exact ⟨by k_is,L2.Z3 (by k_is) (by k_is) (by k_is)⟩)
  (case h19=>exact ⟨by k_is,L2.Z3 (by k_is) (by k_is) (by k_is)⟩); (case h20=>exact ⟨by k_is,L2.Z3 (by k_is) (by k_is) (by k_is)⟩)
  (case h21=>exact ⟨by k_is,L2.Z3 (by k_is) (by k_is) (by k_is)⟩); (case h22=>exact ⟨by k_is,L2.Z3 (by k_is) (by k_is) (by k_is)⟩)
  (case h23=>exact ⟨by k_is,L2.Z3 (by k_is) (by k_is) (by k_is)⟩); (case h24=>exact ⟨by k_is,L2.Z3 (by k_is) (by k_is) (by k_is)⟩)
  (case h25=>exact ⟨by k_is,L2.Z3 (by k_is) (by k_is) (by k_is)⟩); (case h26=>exact ⟨by k_is,L2.Z3 (by k_is) (by k_is) (by k_is)⟩)
  (case h27=>exact ⟨by k_is,L2.Z3 (by k_is) (by k_is) (by k_is)⟩); (case h28=>exact ⟨by k_is,L2.Z3 (by k_is) (by k_is) (by k_is)⟩)
  (case h29=>exact ⟨by k_is,L2.Z3 (by k_is) (by k_is) (by k_is)⟩); (case h30=>exact ⟨by k_is,L2.Z3 (by k_is) (by k_is) (by k_is)⟩)
  (case h31=>exact ⟨by k_is,L2.Z3 (by k_is) (by k_is) (by k_is)⟩); (case h32=>exact ⟨by k_is,L2.Z3 (by k_is) (by k_is) (by k_is)⟩)
  (case h33=>exact ⟨by k_is,L2.Z3 (by k_is) (by k_is) (by k_is)⟩); (case h34=>exact ⟨by k_is,L2.Z3 (by k_is) (by k_is) (by k_is)⟩)
  (case h35=>exact ⟨by k_is,L2.Z3 (by k_is) (by k_is) (by k_is)⟩); (case h36=>exact ⟨by k_is,L2.Z3 (by k_is) (by k_is) (by k_is)⟩)
  (case h37=>exact ⟨by k_is,L2.Z3 (by k_is) (by k_is) (by k_is)⟩); (case h38=>exact ⟨by k_is,L2.Z3 (by k_is) (by k_is) (by k_is)⟩)
  (case h39=>exact ⟨by k_is,L2.Z3 (by k_is) (by k_is) (by k_is)⟩); (case aC=>k_is); (case mj1=>k_is); (case ij1=>k_is); (case J_init=>exact L2.Z3 (by k_is) (by k_is) (by k_is))
  (case mj2=>k_is); (case ij2=>k_is); (case J_next_byte=>exact L2.Z3 (by k_is) (by k_is) (by k_is)); (case mj3=>k_is); (case ij3=>k_is)
  (case J_must=>exact L2.Z3 (by k_is) (by k_is) (by k_is)); (case mj4=>k_is); (case ij4=>k_is); (case J_next_long=>exact L2.Z3 (by k_is) (by k_is) (by k_is)); (case mj5=>k_is)
  (case ij5=>k_is); (case J_enter_room=>exact L2.Z3 (by k_is) (by k_is) (by k_is)); (case mj6=>k_is); (case ij6=>k_is); (case J_leave_room=>exact L2.Z3 (by k_is) (by k_is) (by k_is))
  (case pg=>k_is); (case hd=>k_is); (case po=>k_is); (case sa=>k_is); (case mk=>k_is); (case kc=>k_is); (case n1=>k_is); (case n2=>k_is); (case n3=>k_is); (case aM=>k_is)
  (case xm=>kernel_rfl); (case aX1=>k_is); (case iX1=>k_is); (case JX1=>exact L2.Z3 (by k_is) (by k_is) (by k_is)); (case fX1=>k_is); (case xn1=>kernel_rfl); (case aO1=>k_is)
  (case aO2=>k_is); (case aO3=>k_is); (case aO4=>k_is); (case aO5=>k_is); (case aO6=>k_is); (case aO7=>k_is); (case aO8=>k_is); (case aO9=>k_is); (case xy=>kernel_rfl)
  (case zn_ValueError=>k_is); (case aSo=>k_is); (case lSo=>k_is); (case aBe=>k_is); (case lBe=>k_is); (case kBe=>k_keys); (case bRw=>k_is); (case bMp=>k_is); (case bRc=>k_is)
  (case y_LETTERS=>k_is); (case y_SIGNS=>k_is); (case y_GREATEST_WHOLE=>k_is); (case y_GREATEST_NUMBER=>k_is); (case y_LONGEST_TEXT=>k_is); (case y_LONGEST_NAME=>k_is)
  (case y_DEEPEST=>k_is); (case y_GREATEST_SIZE=>k_is); (case z_len=>k_is); (case z_ord=>k_is); (case z_max=>k_is); (case z_sorted=>k_is); (case z_isinstance=>k_is); (case z_tuple=>k_is)
  (case z_list=>k_is); (case z_set=>k_is); (case z_int=>k_is); (case z_str=>k_is); (case z_bool=>k_is); (case z_range=>k_is); (case z_zip=>k_is); (case z_reversed=>k_is)
  (case z_enumerate=>k_is); (case z_sum=>k_is)
