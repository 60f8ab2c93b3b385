import PyProof.Rows.All
import Wide.All
import OpenK.AllK
import Wide.FinOn
import Lean
import PyProof.EqAt
import PyProof.EqKinds
import PyProof.NeKinds
import PyProof.TupleCall
import PyProof.Rows.SetFrom
import PyProof.CollectWalk
import PyProof.DictIter
import PyProof.Rows.SortShell
import KE.KDictSum
import PyProof.Rows.SortStr
import PyProof.ZipIter
import KE.KItemsList
import PyProof.Rows.SumAny
import PyProof.Rows.StrJoin2
import PyProof.Rows.ZipGen
import PyProof.ConsumeWalk
import PyProof.FString5
import PyProof.StrOps2
import PyProof.StrWalks
import PyProof.FactsAll.dict
import PyProof.TupleOps
import KE.KRevIter
import PyProof.ListNew
import PyProof.TupleOfGen
import PyProof.Rows.SeqMore
import PyProof.MeetsSeq2
import PyProof.FactsAll.tuple
import PyProof.FactsAll.list
import OpenK.KTop
import KE.KIsAll
import PyProof.Draws
import PyProof.EnumMake
import PyProof.EnumFor
import PyProof.AutoSeq1
import PyProof.ListRange
import PyProof.StationsW
import PyProof.RulesAs
import PyProof.ExcClass2
import PyProof.Ns1
import PyProof.NsCount
import PyProof.Slots
import PyProof.ExcArgs
import OpenK.KDescr
import OpenK.KMake
import PyProof.InstStoreFacts
import PyProof.ExcBaseAll.ValueError
import OpenK.KOwn
import PyProof.NsDelKeeps
import PyProof.StrBlockG
import PySem.Challenge.RW_makes_k07_ways_that_lead_nowhere
set_option Elab.async false
set_option linter.all false
set_option maxRecDepth 100000
local macro_rules | `(tactic| trivial) => `(tactic| first | exact .inl rfl | exact .inr rfl | rfl | decide | (intro _; rfl) | exact Or.inl rfl | exact Or.inr rfl | assumption | exact ⟨rfl, rfl, rfl, by decide +kernel, rfl, by decide +kernel, by decide +kernel⟩ | fail)
namespace L2
open PySem PySem.Spec PyProof.Rows
def inClass (s:Stmt) (j:Nat):Stmt:=match s with
 | .ClassDef _ _ _ body _ _ _ _ _ _ _ => body.getD j (.Pass ⟨0,0,0,0⟩)
 | _ => .Pass ⟨0,0,0,0⟩
def defArgs (s:Stmt):Arguments:=match s with
 | .FunctionDef _ a _ _ _ _ _ _ _ _ => a
 | _ => { posonlyargs:=[],args:=[],vararg:=none,kwonlyargs:=[],kw_defaults:=[],kwarg:=none,defaults:=[] }
def defBody (s:Stmt):List Stmt:=match s with
 | .FunctionDef _ _ b _ _ _ _ _ _ _ => b
 | _ => []
def Zk (s:Stmt):Scope:=match s with
 | .FunctionDef _ _ _ _ _ _ sc _ _ _ => sc
 | _ => { kind:=.function,names:=[],isGenerator:=false,isCoroutine:=false }
end L2
namespace K07
open PySem PySem.Spec PyProof.Rows
def top (i:Nat):Stmt:=PySem.Challenge.pw_makes_k07_ways_that_lead_nowhere.main.body.getD i (.Pass ⟨0,0,0,0⟩)
end K07
namespace L2
open PySem PySem.W PySem.Calls PyProof.Rows
section
variable {tb:String→Option Builtin} {p:Program} {w:World} {m:Nat} {a:Option Value}
def runT (tb:String→Option Builtin) (p:Program) (w:World) (m:Nat) (a:Option Value):Nat→SharedT→Thread→Option SharedT
 | 0,_,_ => none
 | k + 1,s,t => bif through t then some s else bif stepOk m a t then (match stepT (denote tb) p w s t with | some (s',t') => runT tb p w m a k s' t' | none => none) else none
theorem runT_of:∀ {k:Nat} {s s':SharedT} {t:Thread},runT tb p w m a k s t = some s'→topRun tb p w m a k s.abs t = some s'.abs
 | 0,_,_,_,h => by cases h
 | k + 1,s,s',t,h => by
  unfold runT at h
  unfold topRun
  cases ht:through t with
  | true => rw [ht] at h; cases h; rfl
  | false =>
   rw [ht] at h
   cases hk:stepOk m a t with
   | false => rw [hk] at h; cases h
   | true =>
    rw [hk] at h
    cases hs:stepT (denote tb) p w s t with
    | none => rw [hs] at h; cases h
    | some r =>
     obtain ⟨s₂,t₂⟩:=r
     rw [hs] at h
     rw [stepT_spec hs]
     exact runT_of h
end
def mkT:List Obj→Nat→BT→BT
 | [],_,t => t
 | o :: l,i,t => mkT l (i + 1) (t.ins i o)
noncomputable abbrev boot0 (w:World) (os:OsState):Shared:=⟨boot_heap w.params,Array.mk [],boot_drawn,boot_toks,os⟩
noncomputable abbrev bootT (w:World) (os:OsState):SharedT:=⟨mkT (boot_heap w.params).objs.toList 0 .nil,(boot_heap w.params).objs.size,(boot_heap w.params).life,Array.mk [],boot_drawn,boot_toks,os⟩
theorem boot_abs (w:World) (os:OsState):(bootT w os).abs = boot0 w os:=by kernel_rfl
noncomputable abbrev goT (p:Program) (N:Nat) (w:World) (os:OsState):Option SharedT:=runT treeTable p w (boot_heap w.params).objs.size ((boot_heap w.params).nsMap mainGlobals "__annotations__") N (bootT w os) (topStub p)
noncomputable abbrev chkT (p:Program) (w:World) (s:Shared):Bool:=staticsOk (importedModules p.main.body) (boot_heap w.params) s.heap && namesBound p s.heap && gensDone s && laidKept (boot_heap w.params) s.heap
theorem ns_ok (w:World):((boot_heap w.params).isNs mainGlobals && (Array.mk []:Array GenState).size == 0) = true:=by kernel_rfl
theorem map_abs {α:Type _} {o:Option SharedT} {f:Shared→α} {r:α} (h:(o.map fun s => f s.abs) = some r):∃ s,o = some s∧f s.abs = r:=by
 obtain ⟨s,e,q⟩:=Option.map_eq_some_iff.mp h
 exact ⟨s,e,q⟩
theorem top_of {α β:Type} {p:Program} {N:Nat} {w:World} {os:OsState} {f:Shared→α} {g:Shared→β} {x:α} {y:β} (h1:((goT p N w os).map fun s => chkT p w s.abs) = some true)
  (h2:((goT p N w os).map fun s => f s.abs) = some x) (h3:((goT p N w os).map fun s => g s.abs) = some y) :
  (topFrom treeTable p w N (boot0 w os)).map (fun s => (f s,g s)) = some (x,y):=by
 obtain ⟨s,e,c⟩:=map_abs h1
 obtain ⟨s2,e2,c2⟩:=map_abs h2
 obtain ⟨s3,e3,c3⟩:=map_abs h3
 rw [e] at e2 e3
 cases e2
 cases e3
 have r:=runT_of e
 rw [boot_abs] at r
 unfold topFrom
 rw [show ((boot0 w os).heap.isNs mainGlobals && (boot0 w os).gens.size == 0) = true from ns_ok w]
 show Option.map _ (Option.bind (topRun treeTable p w (boot_heap w.params).objs.size ((boot_heap w.params).nsMap mainGlobals "__annotations__") N (boot0 w os) (topStub p)) _) = _
 rw [r]
 show Option.map _ (match chkT p w s.abs with | true => some s.abs | false => none) = _
 rw [c]
 show some (f s.abs,g s.abs) = _
 rw [c2,c3]
end L2
namespace K07
open PySem PySem.Spec PyProof.Rows L2
def viewK:Program:={ PySem.Challenge.pw_makes_k07_ways_that_lead_nowhere with main:={ PySem.Challenge.pw_makes_k07_ways_that_lead_nowhere.main with body:=[top 1,top 2,top 3,top 4,top 5,top 6,top 7,top 8,top 9,top 10,top 11,top 13,top 14,top 15,top 16,top 17,top 18,top 19,top 20,top 21,top 23,top 24,top 25,top 26,top 27,top 28,top 29,top 30,top 31,top 32,top 33,top 34,top 35,top 37,top 38,top 39,top 40,top 41,top 42,top 43,top 44,top 45,top 46,top 48,top 49,top 50,top 51,top 52,top 53,top 54,top 55,top 56,top 57,top 58,top 59,top 60,top 61,top 62,top 63,top 64] } }
def Y8:List Str:=["BELOW_LABELS","SORTS_OF_STEPS"]
abbrev en (P:Params) (x:Str) (t:Tok) (v:Value):DictEntry:=⟨PyData.keyHash P x,.str x t,v⟩
abbrev fo (cls:Value) (nm q:Str) (s:Stmt) (kw doc pm:Value) (an:Option Addr) (cd ct:Value) (sl:Array (Option Value)):Obj:=⟨cls,none,.func (PySem.W.fnOf nm q (L2.defArgs s) (L2.defBody s) (L2.Zk s) .none kw doc pm an cd ct),sl⟩
abbrev fn (nm q:Str) (s:Stmt) (md:Str) (t:Nat) (c:Addr):Obj:=fo (.type "function") nm q s .none .none (.str md t) .none (.ref c) .none #[]
abbrev cd (x:Str) (a:Nat) (q:Str) (b c:Nat) (l k:Int) (r1 r2 r3 r4 r5:Addr) (e f:Int) (g:Nat):Obj:=⟨.type "code",.none,.fields #[.str x a,.str q b,.str "/claim/cut.py" c,.int l 0,.int k 0,.int 0 0,.int 0 0,.int 3 0,.ref r1,.bool Bool.true,.int 181 0,.ref r2,.none,.ref r3,.ref r4,.ref r5,.int e 0,.int f 0,.str "/claim/cut.py" g], #[]⟩
noncomputable def heapK:Params→PySem.W.Frag:=fun P =>
 (nat_lit 3, ⟨.type "dict", .none, .dict #[en P "__name__" 165 (.str "law_makes_k07_ways_that_lead_nowhere" 765), en P "__doc__" 166 (.none), en P "__package__" 167 (.none), en P "__loader__" 168 (.builtin "__main__.__loader__#opaque"), en P "__spec__" 169 (.none), en P "__annotations__" 170 (.ref 6), en P "__builtins__" 171 (.ref 4), en P "__file__" 173 (.str "/claim/cut.py" 172), en P "__cached__" 174 (.none), en P "MakeError" 206 (.ref 24), en P "BadByte" 231 (.ref 44), en P "NoPlace" 256 (.ref 63), en P "BadText" 281 (.ref 82), en P "BadItem" 306 (.ref 101), en P "BadDeed" 331 (.ref 120), en P "NoTable" 360 (.ref 139), en P "NoMove" 385 (.ref 158), en P "NoFile" 410 (.ref 177), en P "NoValue" 426 (.ref 189), en P "NoRow" 442 (.ref 201), en P "behind_long" 452 (.ref 210), en P "long_at" 462 (.ref 217), en P "LETTERS" 464 (.str "abcdefghijklmnopqrstuvwxyz" 463), en P "SIGNS" 466 (.str " !\"#$&'()*+,-./0123456789:;<=>?@ABCDEFGHIJKLMNOPQRSTUVWXYZ[\\]^_`abcdefghijklmnopqrstuvwxyz{|}~" 465), en P "GREATEST_WHOLE" 468 (.int 1000000000000000000 467), en P "GREATEST_NUMBER" 470 (.int 999 469), en P "LONGEST_TEXT" 472 (.int 200 471), en P "LONGEST_NAME" 474 (.int 8 473), en P "DEEPEST" 476 (.int 100 475), en P "SORTS" 485 (.ref 218), en P "GREATEST_SIZE" 487 (.int 1000000 486), en P "BELOW_LABELS" 496 (.ref 219), en P "unfolded" 503 (.ref 226), en P "Reader" 580 (.ref 278), en P "unpacked_between" 591 (.ref 289), en P "next_item" 606 (.ref 296), en P "next_text" 615 (.ref 303), en P "next_sign" 623 (.ref 310), en P "next_letter" 631 (.ref 317), en P "next_label" 640 (.ref 324), en P "next_number" 649 (.ref 331), en P "next_key" 660 (.ref 338), en P "SORTS_OF_STEPS" 675 (.ref 339), en P "span_at" 686 (.ref 346), en P "item_at" 695 (.ref 353), en P "place_behind" 709 (.ref 360), en P "codes_of" 715 (.ref 365), en P "arm_part" 723 (.ref 372), en P "room_parts" 737 (.ref 379), en P "behind_label" 746 (.ref 386), en P "label_at" 755 (.ref 393), en P "behind_item" 764 (.ref 400), en P "_law_feed" 775 (.ref 407), en P "_law_draw" 785 (.ref 414), en P "_law_name" 791 (.ref 419), en P "_law_number" 799 (.ref 426), en P "_law_whole" 808 (.ref 433), en P "_law_text" 814 (.ref 438), en P "_law_item" 820 (.ref 443), en P "_law_parts" 826 (.ref 448), en P "_law_long" 834 (.ref 455), en P "_law_key" 840 (.ref 460), en P "_law_packed" 849 (.ref 467), en P "_law_steps" 855 (.ref 472), en P "_law_rest" 861 (.ref 477), en P "_law_spans" 876 (.ref 484), en P "_law_refused" 887 (.ref 491), en P "_law_wrong" 893 (.ref 496), en P "law" 913 (.ref 503)] 69, #[]⟩) ::
 (nat_lit 23,⟨.type "dict",.none,.dict #[en P "__module__" 196 (.str "makes.errors" 187),en P "__firstlineno__" 200 (.int 2 199),en P "__static_attributes__" 201 (.ref 22),en P "__weakref__" 203 (.ref 25),en P "__doc__" 204 (.none)] 3, #[]⟩) ::
 (nat_lit 24,⟨.type "type",.none,.cls { name:="MakeError",bases:=[.type "ValueError"],mro:=[.ref 24,.type "ValueError",.type "Exception",.type "BaseException",.type "object"],ns:=23,qualname:="MakeError",subclasses:=[.ref 44,.ref 63,.ref 82,.ref 101,.ref 120,.ref 139,.ref 158,.ref 177,.ref 189,.ref 201] }, #[.some (.ref 15),.none,.some (.str "MakeError" 189),.some (.str "MakeError" 197),.some (.builtin "ValueError.__new__"),.some (.bool Bool.true)]⟩) ::
 (nat_lit 44,⟨.type "type",.none,.cls { name:="BadByte",bases:=[.ref 24],mro:=[.ref 44,.ref 24,.type "ValueError",.type "Exception",.type "BaseException",.type "object"],ns:=43,qualname:="BadByte" }, #[.some (.ref 28),.none,.some (.str "BadByte" 207),.some (.str "BadByte" 215),.some (.builtin "ValueError.__new__"),.some (.bool Bool.true)]⟩) ::
 (nat_lit 59,cd "__init__" 244 "NoPlace.__init__" 245 246 10 2 54 55 56 57 58 249 10 250) ::
 (nat_lit 60,fn "__init__" "NoPlace.__init__" (inClass (top 3) 0) "makes.errors" 187 59) ::
 (nat_lit 62,⟨.type "dict",.none,.dict #[en P "__module__" 239 (.str "makes.errors" 187),en P "__firstlineno__" 243 (.int 8 242),en P "__init__" 251 (.ref 60),en P "__static_attributes__" 253 (.ref 61),en P "__doc__" 254 (.none)] 2, #[]⟩) ::
 (nat_lit 63,⟨.type "type",.none,.cls { name:="NoPlace",bases:=[.ref 24],mro:=[.ref 63,.ref 24,.type "ValueError",.type "Exception",.type "BaseException",.type "object"],ns:=62,qualname:="NoPlace" }, #[.some (.ref 47),.none,.some (.str "NoPlace" 232),.some (.str "NoPlace" 240),.some (.builtin "ValueError.__new__"),.some (.bool Bool.true)]⟩) ::
 (nat_lit 82,⟨.type "type",.none,.cls { name:="BadText",bases:=[.ref 24],mro:=[.ref 82,.ref 24,.type "ValueError",.type "Exception",.type "BaseException",.type "object"],ns:=81,qualname:="BadText" }, #[.some (.ref 66),.none,.some (.str "BadText" 257),.some (.str "BadText" 265),.some (.builtin "ValueError.__new__"),.some (.bool Bool.true)]⟩) ::
 (nat_lit 101,⟨.type "type",.none,.cls { name:="BadItem",bases:=[.ref 24],mro:=[.ref 101,.ref 24,.type "ValueError",.type "Exception",.type "BaseException",.type "object"],ns:=100,qualname:="BadItem" }, #[.some (.ref 85),.none,.some (.str "BadItem" 282),.some (.str "BadItem" 290),.some (.builtin "ValueError.__new__"),.some (.bool Bool.true)]⟩) ::
 (nat_lit 120,⟨.type "type",.none,.cls { name:="BadDeed",bases:=[.ref 24],mro:=[.ref 120,.ref 24,.type "ValueError",.type "Exception",.type "BaseException",.type "object"],ns:=119,qualname:="BadDeed" }, #[.some (.ref 104),.none,.some (.str "BadDeed" 307),.some (.str "BadDeed" 315),.some (.builtin "ValueError.__new__"),.some (.bool Bool.true)]⟩) ::
 (nat_lit 139,⟨.type "type",.none,.cls { name:="NoTable",bases:=[.ref 24],mro:=[.ref 139,.ref 24,.type "ValueError",.type "Exception",.type "BaseException",.type "object"],ns:=138,qualname:="NoTable" }, #[.some (.ref 123),.none,.some (.str "NoTable" 332),.some (.str "NoTable" 340),.some (.builtin "ValueError.__new__"),.some (.bool Bool.true)]⟩) ::
 (nat_lit 158,⟨.type "type",.none,.cls { name:="NoMove",bases:=[.ref 24],mro:=[.ref 158,.ref 24,.type "ValueError",.type "Exception",.type "BaseException",.type "object"],ns:=157,qualname:="NoMove" }, #[.some (.ref 142),.none,.some (.str "NoMove" 361),.some (.str "NoMove" 369),.some (.builtin "ValueError.__new__"),.some (.bool Bool.true)]⟩) ::
 (nat_lit 177,⟨.type "type",.none,.cls { name:="NoFile",bases:=[.ref 24],mro:=[.ref 177,.ref 24,.type "ValueError",.type "Exception",.type "BaseException",.type "object"],ns:=176,qualname:="NoFile" }, #[.some (.ref 161),.none,.some (.str "NoFile" 386),.some (.str "NoFile" 394),.some (.builtin "ValueError.__new__"),.some (.bool Bool.true)]⟩) ::
 (nat_lit 189,⟨.type "type",.none,.cls { name:="NoValue",bases:=[.ref 24],mro:=[.ref 189,.ref 24,.type "ValueError",.type "Exception",.type "BaseException",.type "object"],ns:=188,qualname:="NoValue" }, #[.some (.ref 180),.none,.some (.str "NoValue" 411),.some (.str "NoValue" 419),.some (.builtin "ValueError.__new__"),.some (.bool Bool.true)]⟩) ::
 (nat_lit 201,⟨.type "type",.none,.cls { name:="NoRow",bases:=[.ref 24],mro:=[.ref 201,.ref 24,.type "ValueError",.type "Exception",.type "BaseException",.type "object"],ns:=200,qualname:="NoRow" }, #[.some (.ref 192),.none,.some (.str "NoRow" 427),.some (.str "NoRow" 435),.some (.builtin "ValueError.__new__"),.some (.bool Bool.true)]⟩) ::
 (nat_lit 209,cd "behind_long" 445 "behind_long" 446 447 43 2 204 205 206 207 208 450 43 451) ::
 (nat_lit 210,fn "behind_long" "behind_long" (top 13) "makes.longs" 443 209) ::
 (nat_lit 216,cd "long_at" 453 "long_at" 454 455 47 2 211 212 213 214 215 460 47 461) ::
 (nat_lit 217,fn "long_at" "long_at" (top 14) "makes.longs" 443 216) ::
 (nat_lit 218,⟨.type "tuple",.none,.seq #[.str "whole" 479,.str "text" 480,.str "row" 481,.str "map" 482,.str "rec" 483,.str "arm" 484], #[]⟩) ::
 (nat_lit 288,cd "unpacked_between" 581 "unpacked_between" 582 583 104 3 283 284 285 286 287 589 104 590) ::
 (nat_lit 289,fn "unpacked_between" "unpacked_between" (top 28) "makes.packing" 477 288) ::
 (nat_lit 339,⟨.type "dict",.none,.dict #[en P "at" 663 (.str "row" 664),en P "key" 665 (.str "map" 666),en P "field" 667 (.str "rec" 668),en P "arm" 669 (.str "arm" 670)] 4, #[]⟩) ::
 (nat_lit 345,cd "span_at" 676 "span_at" 677 678 163 2 340 341 342 343 344 684 163 685) ::
 (nat_lit 346,fn "span_at" "span_at" (top 38) "makes.looking" 661 345) ::
 (nat_lit 352,cd "item_at" 687 "item_at" 688 689 170 2 347 348 349 350 351 693 170 694) ::
 (nat_lit 353,fn "item_at" "item_at" (top 39) "makes.looking" 661 352) ::
 (nat_lit 359,cd "place_behind" 696 "place_behind" 697 698 173 3 354 355 356 357 358 707 173 708) ::
 (nat_lit 360,fn "place_behind" "place_behind" (top 40) "makes.looking" 661 359) ::
 (nat_lit 364,⟨.type "code",.none,.fields #[.str "codes_of" 710,.str "codes_of" 711,.str "/claim/cut.py" 712,.int 183 0,.int 1 0,.int 0 0,.int 0 0,.int 3 0,.ref 361,.bool Bool.true,.int 181 0,.ref 362,.none,.none,.none,.ref 363,.int 713 0,.int 183 0,.str "/claim/cut.py" 714], #[]⟩) ::
 (nat_lit 365,fn "codes_of" "codes_of" (top 41) "makes.looking" 661 364) ::
 (nat_lit 371,cd "arm_part" 716 "arm_part" 717 718 185 2 366 367 368 369 370 721 185 722) ::
 (nat_lit 372,fn "arm_part" "arm_part" (top 42) "makes.looking" 661 371) ::
 (nat_lit 378,cd "room_parts" 724 "room_parts" 725 726 187 2 373 374 375 376 377 735 187 736) ::
 (nat_lit 379,fn "room_parts" "room_parts" (top 43) "makes.looking" 661 378) ::
 (nat_lit 385,cd "behind_label" 738 "behind_label" 739 740 198 3 380 381 382 383 384 744 198 745) ::
 (nat_lit 386,fn "behind_label" "behind_label" (top 44) "makes.looking" 661 385) ::
 (nat_lit 392,cd "label_at" 747 "label_at" 748 749 204 3 387 388 389 390 391 753 204 754) ::
 (nat_lit 393,fn "label_at" "label_at" (top 45) "makes.looking" 661 392) ::
 (nat_lit 399,cd "behind_item" 756 "behind_item" 757 758 208 2 394 395 396 397 398 762 208 763) ::
 (nat_lit 400,fn "behind_item" "behind_item" (top 46) "makes.looking" 661 399) ::
 (nat_lit 406,cd "_law_feed" 767 "_law_feed" 768 769 216 2 401 402 403 404 405 773 216 774) ::
 (nat_lit 407,fn "_law_feed" "_law_feed" (top 48) "law_makes_k07_ways_that_lead_nowhere" 765 406) ::
 (nat_lit 413,cd "_law_draw" 776 "_law_draw" 777 778 221 2 408 409 410 411 412 783 221 784) ::
 (nat_lit 414,fn "_law_draw" "_law_draw" (top 49) "law_makes_k07_ways_that_lead_nowhere" 765 413) ::
 (nat_lit 418,⟨.type "code",.none,.fields #[.str "_law_name" 786,.str "_law_name" 787,.str "/claim/cut.py" 788,.int 231 0,.int 1 0,.int 0 0,.int 0 0,.int 3 0,.ref 415,.bool Bool.true,.int 181 0,.ref 416,.none,.none,.none,.ref 417,.int 789 0,.int 231 0,.str "/claim/cut.py" 790], #[]⟩) ::
 (nat_lit 419,fn "_law_name" "_law_name" (top 50) "law_makes_k07_ways_that_lead_nowhere" 765 418) ::
 (nat_lit 425,cd "_law_number" 792 "_law_number" 793 794 237 1 420 421 422 423 424 797 237 798) ::
 (nat_lit 426,fn "_law_number" "_law_number" (top 51) "law_makes_k07_ways_that_lead_nowhere" 765 425) ::
 (nat_lit 432,cd "_law_whole" 800 "_law_whole" 801 802 242 1 427 428 429 430 431 806 242 807) ::
 (nat_lit 433,fn "_law_whole" "_law_whole" (top 52) "law_makes_k07_ways_that_lead_nowhere" 765 432) ::
 (nat_lit 437,⟨.type "code",.none,.fields #[.str "_law_text" 809,.str "_law_text" 810,.str "/claim/cut.py" 811,.int 248 0,.int 1 0,.int 0 0,.int 0 0,.int 3 0,.ref 434,.bool Bool.true,.int 181 0,.ref 435,.none,.none,.none,.ref 436,.int 812 0,.int 248 0,.str "/claim/cut.py" 813], #[]⟩) ::
 (nat_lit 438,fn "_law_text" "_law_text" (top 53) "law_makes_k07_ways_that_lead_nowhere" 765 437) ::
 (nat_lit 442,⟨.type "code",.none,.fields #[.str "_law_item" 815,.str "_law_item" 816,.str "/claim/cut.py" 817,.int 257 0,.int 2 0,.int 0 0,.int 0 0,.int 3 0,.ref 439,.bool Bool.true,.int 181 0,.ref 440,.none,.none,.none,.ref 441,.int 818 0,.int 257 0,.str "/claim/cut.py" 819], #[]⟩) ::
 (nat_lit 443,fn "_law_item" "_law_item" (top 54) "law_makes_k07_ways_that_lead_nowhere" 765 442) ::
 (nat_lit 447,⟨.type "code",.none,.fields #[.str "_law_parts" 821,.str "_law_parts" 822,.str "/claim/cut.py" 823,.int 274 0,.int 1 0,.int 0 0,.int 0 0,.int 3 0,.ref 444,.bool Bool.true,.int 181 0,.ref 445,.none,.none,.none,.ref 446,.int 824 0,.int 274 0,.str "/claim/cut.py" 825], #[]⟩) ::
 (nat_lit 448,fn "_law_parts" "_law_parts" (top 55) "law_makes_k07_ways_that_lead_nowhere" 765 447) ::
 (nat_lit 454,cd "_law_long" 827 "_law_long" 828 829 282 1 449 450 451 452 453 832 282 833) ::
 (nat_lit 455,fn "_law_long" "_law_long" (top 56) "law_makes_k07_ways_that_lead_nowhere" 765 454) ::
 (nat_lit 459,⟨.type "code",.none,.fields #[.str "_law_key" 835,.str "_law_key" 836,.str "/claim/cut.py" 837,.int 289 0,.int 1 0,.int 0 0,.int 0 0,.int 3 0,.ref 456,.bool Bool.true,.int 181 0,.ref 457,.none,.none,.none,.ref 458,.int 838 0,.int 289 0,.str "/claim/cut.py" 839], #[]⟩) ::
 (nat_lit 460,fn "_law_key" "_law_key" (top 57) "law_makes_k07_ways_that_lead_nowhere" 765 459) ::
 (nat_lit 466,cd "_law_packed" 841 "_law_packed" 842 843 293 1 461 462 463 464 465 847 293 848) ::
 (nat_lit 467,fn "_law_packed" "_law_packed" (top 58) "law_makes_k07_ways_that_lead_nowhere" 765 466) ::
 (nat_lit 471,⟨.type "code",.none,.fields #[.str "_law_steps" 850,.str "_law_steps" 851,.str "/claim/cut.py" 852,.int 307 0,.int 1 0,.int 0 0,.int 0 0,.int 3 0,.ref 468,.bool Bool.true,.int 181 0,.ref 469,.none,.none,.none,.ref 470,.int 853 0,.int 307 0,.str "/claim/cut.py" 854], #[]⟩) ::
 (nat_lit 472,fn "_law_steps" "_law_steps" (top 59) "law_makes_k07_ways_that_lead_nowhere" 765 471) ::
 (nat_lit 476,⟨.type "code",.none,.fields #[.str "_law_rest" 856,.str "_law_rest" 857,.str "/claim/cut.py" 858,.int 317 0,.int 1 0,.int 0 0,.int 0 0,.int 3 0,.ref 473,.bool Bool.true,.int 181 0,.ref 474,.none,.none,.none,.ref 475,.int 859 0,.int 317 0,.str "/claim/cut.py" 860], #[]⟩) ::
 (nat_lit 477,fn "_law_rest" "_law_rest" (top 60) "law_makes_k07_ways_that_lead_nowhere" 765 476) ::
 (nat_lit 483,cd "_law_spans" 862 "_law_spans" 863 864 320 3 478 479 480 481 482 874 320 875) ::
 (nat_lit 484,fn "_law_spans" "_law_spans" (top 61) "law_makes_k07_ways_that_lead_nowhere" 765 483) ::
 (nat_lit 490,cd "_law_refused" 877 "_law_refused" 878 879 331 3 485 486 487 488 489 885 331 886) ::
 (nat_lit 491,fn "_law_refused" "_law_refused" (top 62) "law_makes_k07_ways_that_lead_nowhere" 765 490) ::
 (nat_lit 495,⟨.type "code",.none,.fields #[.str "_law_wrong" 888,.str "_law_wrong" 889,.str "/claim/cut.py" 890,.int 345 0,.int 2 0,.int 0 0,.int 0 0,.int 3 0,.ref 492,.bool Bool.true,.int 181 0,.ref 493,.none,.none,.none,.ref 494,.int 891 0,.int 345 0,.str "/claim/cut.py" 892], #[]⟩) ::
 (nat_lit 496,fn "_law_wrong" "_law_wrong" (top 63) "law_makes_k07_ways_that_lead_nowhere" 765 495) ::
 (nat_lit 502,cd "law" 894 "law" 895 896 359 1 497 498 499 500 501 911 359 912) ::
 (nat_lit 503,fn "law" "law" (top 64) "law_makes_k07_ways_that_lead_nowhere" 765 502) ::
 []
def asK:List Addr:=[3,23,24,44,59,60,62,63,82,101,120,139,158,177,189,201,209,210,216,217,218,288,289,339,345,346,352,353,359,360,364,365,371,372,378,379,385,386,392,393,399,400,406,407,413,414,418,419,425,426,432,433,437,438,442,443,447,448,454,455,459,460,466,467,471,472,476,477,483,484,490,491,495,496,502,503]
theorem asK_eq (P:Params):asK = (heapK P).map (·.1):=by kernel_rfl
noncomputable abbrev hookK:PySem.W.Hook:=PySem.W.kHook heapK asK asK_eq
abbrev xtK (s:Shared):Bool:=PySem.W.xlAt viewK [] s && PySem.W.recOk (PySem.W.RowW.records PySem.Challenge.rw_makes_k07_ways_that_lead_nowhere.row.toRowW) s
abbrev LeftAt (w:World):Prop:=(PySem.W.openEnds treeTable PySem.Challenge.pw_makes_k07_ways_that_lead_nowhere w 8846).map (fun s => (PySem.W.openSeen viewK Y8 (importedModules PySem.Challenge.pw_makes_k07_ways_that_lead_nowhere.main.body) xtK true s,hookK.obs s)) = some (PySem.W.openGood viewK Y8,hookK.val w)
abbrev seenK (s:Shared):=PySem.W.openSeen viewK Y8 (importedModules PySem.Challenge.pw_makes_k07_ways_that_lead_nowhere.main.body) xtK true s
abbrev wK (w:World) (b:Bool):World:=w.withFollow "special-get-raises" b
theorem chkF (w:World) (os:OsState):((L2.goT PySem.Challenge.pw_makes_k07_ways_that_lead_nowhere 8846 (wK w false) os).map fun s => L2.chkT PySem.Challenge.pw_makes_k07_ways_that_lead_nowhere (wK w false) s.abs) = some true:=by kernel_rfl
theorem chkR (w:World) (os:OsState):((L2.goT PySem.Challenge.pw_makes_k07_ways_that_lead_nowhere 8846 (wK w true) os).map fun s => L2.chkT PySem.Challenge.pw_makes_k07_ways_that_lead_nowhere (wK w true) s.abs) = some true:=by kernel_rfl
theorem seenF1 (w:World) (os:OsState):((L2.goT PySem.Challenge.pw_makes_k07_ways_that_lead_nowhere 8846 (wK w false) os).map fun s => (seenK s.abs).1) = some (PySem.W.openGood viewK Y8).1:=by kernel_rfl
theorem seenF2 (w:World) (os:OsState):((L2.goT PySem.Challenge.pw_makes_k07_ways_that_lead_nowhere 8846 (wK w false) os).map fun s => (seenK s.abs).2.1) = some (PySem.W.openGood viewK Y8).2.1:=by kernel_rfl
theorem seenF3 (w:World) (os:OsState):((L2.goT PySem.Challenge.pw_makes_k07_ways_that_lead_nowhere 8846 (wK w false) os).map fun s => (seenK s.abs).2.2) = some (PySem.W.openGood viewK Y8).2.2:=by kernel_rfl
theorem seenT1 (w:World) (os:OsState):((L2.goT PySem.Challenge.pw_makes_k07_ways_that_lead_nowhere 8846 (wK w true) os).map fun s => (seenK s.abs).1) = some (PySem.W.openGood viewK Y8).1:=by kernel_rfl
theorem seenT2 (w:World) (os:OsState):((L2.goT PySem.Challenge.pw_makes_k07_ways_that_lead_nowhere 8846 (wK w true) os).map fun s => (seenK s.abs).2.1) = some (PySem.W.openGood viewK Y8).2.1:=by kernel_rfl
theorem seenT3 (w:World) (os:OsState):((L2.goT PySem.Challenge.pw_makes_k07_ways_that_lead_nowhere 8846 (wK w true) os).map fun s => (seenK s.abs).2.2) = some (PySem.W.openGood viewK Y8).2.2:=by kernel_rfl
theorem seen_of {w:World} {os:OsState} (h1:((L2.goT PySem.Challenge.pw_makes_k07_ways_that_lead_nowhere 8846 w os).map fun s => (seenK s.abs).1) = some (PySem.W.openGood viewK Y8).1) (h2:((L2.goT PySem.Challenge.pw_makes_k07_ways_that_lead_nowhere 8846 w os).map fun s => (seenK s.abs).2.1) = some (PySem.W.openGood viewK Y8).2.1)
  (h3:((L2.goT PySem.Challenge.pw_makes_k07_ways_that_lead_nowhere 8846 w os).map fun s => (seenK s.abs).2.2) = some (PySem.W.openGood viewK Y8).2.2):((L2.goT PySem.Challenge.pw_makes_k07_ways_that_lead_nowhere 8846 w os).map fun s => seenK s.abs) = some (PySem.W.openGood viewK Y8):=by
 obtain ⟨s,e,c1⟩:=L2.map_abs (f:=fun s => (seenK s).1) h1
 obtain ⟨s2,e2,c2⟩:=L2.map_abs (f:=fun s => (seenK s).2.1) h2
 obtain ⟨s3,e3,c3⟩:=L2.map_abs (f:=fun s => (seenK s).2.2) h3
 rw [e] at e2 e3
 cases e2
 cases e3
 rw [e]
 exact congrArg some (Prod.ext c1 (Prod.ext c2 c3))
theorem seenF (w:World) (os:OsState):((L2.goT PySem.Challenge.pw_makes_k07_ways_that_lead_nowhere 8846 (wK w false) os).map fun s => seenK s.abs) = some (PySem.W.openGood viewK Y8):=seen_of (seenF1 w os) (seenF2 w os) (seenF3 w os)
theorem seenT (w:World) (os:OsState):((L2.goT PySem.Challenge.pw_makes_k07_ways_that_lead_nowhere 8846 (wK w true) os).map fun s => seenK s.abs) = some (PySem.W.openGood viewK Y8):=seen_of (seenT1 w os) (seenT2 w os) (seenT3 w os)
theorem obsF (w:World) (os:OsState):((L2.goT PySem.Challenge.pw_makes_k07_ways_that_lead_nowhere 8846 (wK w false) os).map fun s => hookK.obs s.abs) = some (hookK.val (wK w false)):=by kernel_rfl
theorem obsT (w:World) (os:OsState):((L2.goT PySem.Challenge.pw_makes_k07_ways_that_lead_nowhere 8846 (wK w true) os).map fun s => hookK.obs s.abs) = some (hookK.val (wK w true)):=by kernel_rfl
theorem left_of (w:World) (h1:∀ os,((L2.goT PySem.Challenge.pw_makes_k07_ways_that_lead_nowhere 8846 w os).map fun s => L2.chkT PySem.Challenge.pw_makes_k07_ways_that_lead_nowhere w s.abs) = some true) (h2:∀ os,((L2.goT PySem.Challenge.pw_makes_k07_ways_that_lead_nowhere 8846 w os).map fun s => seenK s.abs) = some (PySem.W.openGood viewK Y8)) (h3:∀ os,((L2.goT PySem.Challenge.pw_makes_k07_ways_that_lead_nowhere 8846 w os).map fun s => hookK.obs s.abs) = some (hookK.val w)):LeftAt w:=by
 obtain ⟨⟨hp,g,d,k,os⟩,hs,hv⟩:=Option.map_eq_some_iff.mp (PySem.W.boot_open (p:=PySem.Challenge.pw_makes_k07_ways_that_lead_nowhere) (N:=8846) rfl (by decide) (fun s => rfl) w)
 simp only [Prod.mk.injEq] at hv
 obtain ⟨rfl,rfl,rfl,rfl⟩:=hv
 show Option.map _ (Option.bind (PySem.W.fencedOpening treeTable PySem.Challenge.pw_makes_k07_ways_that_lead_nowhere w 8846) (PySem.W.topFrom treeTable PySem.Challenge.pw_makes_k07_ways_that_lead_nowhere w 8846)) = _
 rw [hs]
 exact L2.top_of (h1 os) (h2 os) (h3 os)
theorem leftF (w:World):LeftAt (w.withFollow "special-get-raises" false):=left_of _ (chkF w) (seenF w) (obsF w)
theorem leftT (w:World):LeftAt (w.withFollow "special-get-raises" true):=left_of _ (chkR w) (seenT w) (obsT w)
theorem leftK:PySem.W.LeftO PySem.Challenge.pw_makes_k07_ways_that_lead_nowhere viewK Y8 xtK hookK.obs hookK.val 8846:=PySem.W.byRow2 "special-get-raises" leftF leftT
end K07
namespace L2
open PySem PySem.Spec PyProof.Rows
abbrev Key:=Sum Int Str
def keyIs:Key→Value→Bool
 | .inl k,v => Value.isInt k v
 | .inr x,v => Value.isStrOf x v
def keyH (w:World):Key→Int
 | .inl k => hashInt k
 | .inr x => hashStr w x
theorem Ym:∀ {k:Key} {v:Value},keyIs k v = true→(∃ i t,k = Sum.inl i∧v = Value.int i t) ∨ (∃ x t,k = Sum.inr x∧v = Value.str x t)
 | .inl i,v,h => by
  obtain ⟨t,e⟩:=Value.isInt_shape (k:=i) (v:=v) h
  exact .inl ⟨i,t,rfl,e⟩
 | .inr x,v,h => by
  obtain ⟨t,e⟩:=Value.isStrOf_shape (x:=x) (v:=v) h
  exact .inr ⟨x,t,rfl,e⟩
theorem keyIs_int (i:Int) (t:Tok):keyIs (.inl i) (.int i t) = true:=by simp [keyIs,Value.isInt]
theorem keyIs_str (x:Str) (t:Tok):keyIs (.inr x) (.str x t) = true:=by simp [keyIs,Value.isStrOf]
theorem key_ll (a b:Int):decide ((Sum.inl a:Key) = Sum.inl b) = (a == b):=by
 by_cases e:a = b
 ·subst e; simp
 ·have h:¬ (Sum.inl a:Key) = Sum.inl b:=fun q => e (Sum.inl.inj q)
  rw [decide_eq_false h]
  exact (beq_eq_false_iff_ne.mpr e).symm
theorem key_rr (a b:Str):decide ((Sum.inr a:Key) = Sum.inr b) = decide (a = b):=by
 by_cases e:a = b
 ·subst e; simp
 ·have h:¬ (Sum.inr a:Key) = Sum.inr b:=fun q => e (Sum.inr.inj q)
  rw [decide_eq_false h,decide_eq_false e]
theorem key_lr (a:Int) (b:Str):decide ((Sum.inl a:Key) = Sum.inr b) = false:=decide_eq_false (fun q => nomatch q)
theorem key_rl (a:Str) (b:Int):decide ((Sum.inr a:Key) = Sum.inl b) = false:=decide_eq_false (fun q => nomatch q)
def mixKind (prog:Program) (w:World):PySem.KeyKind prog w Key where
 is:=keyIs
 hash:=keyH w
 inj:=fun v a b ha hb => by
  rcases Ym ha with ⟨i,t,rfl,rfl⟩ | ⟨x,t,rfl,rfl⟩
  ·rcases Ym hb with ⟨j,u,rfl,e⟩ | ⟨y,u,rfl,e⟩
   ·injection e with e1 _; rw [e1]
   ·exact nomatch e
  ·rcases Ym hb with ⟨j,u,rfl,e⟩ | ⟨y,u,rfl,e⟩
   ·exact nomatch e
   ·injection e with e1 _; rw [e1]
 byValue:=fun k v h => by
  rcases Ym h with ⟨i,t,rfl,rfl⟩ | ⟨x,t,rfl,rfl⟩ <;> rfl
 pyHash:=fun hv h => by
  rcases Ym hv with ⟨i,t,rfl,rfl⟩ | ⟨x,t,rfl,rfl⟩
  ·exact wpAny_pyHash_int h
  ·exact wpAny_pyHash_str h
 eqBool:=fun hu hv h => by
  rcases Ym hu with ⟨i,t,rfl,rfl⟩ | ⟨x,t,rfl,rfl⟩
  ·rcases Ym hv with ⟨j,u,rfl,rfl⟩ | ⟨y,u,rfl,rfl⟩
   ·rw [key_ll] at h; exact wpAny_eqBool_int h
   ·rw [key_lr] at h; exact SeqAt.EqAt.int_str i t y u _ _ _ _ h
  ·rcases Ym hv with ⟨j,u,rfl,rfl⟩ | ⟨y,u,rfl,rfl⟩
   ·rw [key_rl] at h; exact SeqAt.EqAt.str_int x t j u _ _ _ _ h
   ·rw [key_rr] at h; exact wpAny_eqBool_str h
 «strs»:=fun k x t v h => by
  rcases Ym h with ⟨i,u,rfl,e⟩ | ⟨y,u,rfl,e⟩
  ·exact nomatch e
  ·injection e with e1 _
   subst e1
   cases v <;> rfl
inductive V where
 | non | bl (b:Bool) | int (i:Int) | str (x:Str) | byt (b:Array UInt8) | flt (b:UInt64) | ref (a:Addr) | ty (n:String)
 deriving DecidableEq
def Z6:V→Value→Prop
 | .non,u => u = Value.none
 | .bl b,u => u = Value.bool b
 | .int i,u => ∃ t,u = Value.int i t
 | .str x,u => ∃ t,u = Value.str x t
 | .byt b,u => ∃ t,u = Value.bytes b t
 | .flt b,u => ∃ t,u = Value.float b t
 | .ref a,u => u = Value.ref a
 | .ty n,u => u = Value.type n
abbrev Z1:List V→List Value→Prop:=Paired Z6
theorem Z1.length {xs:List V} {us:List Value} (r:Z1 xs us):xs.length = us.length:=Paired.length r
theorem Z1.get:∀ {xs:List V} {us:List Value} {i:Nat} {x:V},Z1 xs us→xs[i]? = some x→∃ u,us[i]? = some u∧Z6 x u
 | _,_,_,_,.nil,e => by simp at e
 | _,_,0,_,.cons r _,e => by simp at e; subst e; exact ⟨_,rfl,r⟩
 | _,_,i + 1,x,.cons _ t,e => by
  obtain ⟨u,h1,h2⟩:=Z1.get (i:=i) (x:=x) t (by simpa using e)
  exact ⟨u,by simpa using h1,h2⟩
theorem Z1.set {x:V} {u:Value} (r:Z6 x u):∀ {xs:List V} {us:List Value} (i:Nat),Z1 xs us→Z1 (xs.set i x) (us.set i u)
 | _,_,_,.nil => .nil
 | _,_,0,.cons _ t => .cons r t
 | _,_,i + 1,.cons q t => .cons q (Z1.set r i t)
theorem Z1.append:∀ {xs ys:List V} {us ws:List Value},Z1 xs us→Z1 ys ws→Z1 (xs ++ ys) (us ++ ws)
 | _,_,_,_,.nil,s => s
 | _,_,_,_,.cons r t,s => .cons r (Z1.append t s)
theorem Z1.take:∀ {xs:List V} {us:List Value} (n:Nat),Z1 xs us→Z1 (xs.take n) (us.take n)
 | _,_,0,_ => .nil
 | _,_,_ + 1,.nil => .nil
 | _,_,n + 1,.cons r t => .cons r (Z1.take n t)
theorem Z1.drop:∀ {xs:List V} {us:List Value} (n:Nat),Z1 xs us→Z1 (xs.drop n) (us.drop n)
 | _,_,0,r => r
 | _,_,_ + 1,.nil => .nil
 | _,_,n + 1,.cons _ t => Z1.drop n t
theorem Z1.none_of:∀ {xs:List V} {us:List Value} {i:Nat},Z1 xs us→xs[i]? = none→us[i]? = none:=fun {xs us i} r e => by
 have h1:=r.length
 have h2:xs.length ≤ i:=List.getElem?_eq_none_iff.mp e
 exact List.getElem?_eq_none_iff.mpr (by omega)
def RelO:Option V→Option Value→Prop
 | some v,some u => Z6 v u
 | none,none => True
 | _,_ => False
def KV {κ:Type}:List (κ × V)→List (κ × Value)→Prop:=Paired fun (p:κ × V) (q:κ × Value) => p.1 = q.1∧Z6 p.2 q.2
def kV:Key→V
 | .inl i => .int i
 | .inr x => .str x
inductive HO where
 | lst (xs:List V)
 | tup (xs:List V)
 | dK (kvs:List (Key × V)) | dT (kvs:List (List Key × V))
 | set (S:Int→Bool) (n:Nat)
 | ins (C dx:Addr) (fs:List (Str × V))
 | own (x:Addr)
 | xd (fs:List (Str × V))
 | met (f x:Addr)
 | rng (lo hi:Int)
 | frz (o:Obj) (u:HO)
 | tbl (ps:Array Value)
 | ext (φ:Heap→Prop)
abbrev Hp:=Addr→Option HO
def Zo (H:Hp) (a:Addr) (o:HO):Hp:=fun b => if b = a then some o else H b
theorem Zq {H:Hp} {a:Addr} {o:HO}:Zo H a o a = some o:=by unfold Zo; rw [if_pos rfl]
theorem Zt {H:Hp} {a b:Addr} {o:HO} (h:b ≠ a):Zo H a o b = H b:=by unfold Zo; rw [if_neg h]
theorem upd_upd {H:Hp} {a:Addr} {o u:HO}:Zo (Zo H a o) a u = Zo H a u:=by
 funext b; unfold Zo; split <;> rfl
theorem Zu {H:Hp} {a b:Addr} {o:HO} (h:H a = some o) (h':H b = none):a ≠ b:=by
 intro e; subst e; rw [h] at h'; cases h'
section
variable (P:Program) (w:World)
def Y0 (H:Hp) (h:Heap) (a:Addr):HO→Prop
 | .lst xs => xs.length ≤ sizeLine∧∃ (its:List Value) (n:Nat),Z1 xs its∧h.get? a = some { cls:=.type "list",data:=.seq its.toArray n }
 | .tup xs => xs.length ≤ sizeLine∧∃ its:List Value,Z1 xs its∧IsTup h a its.toArray
 | .dK kvs => kvs.length ≤ sizeLine∧(a == sysModules) = false∧∃ vs,KV kvs vs∧h.DictOf (mixKind P w) a vs
 | .dT kvs => kvs.length ≤ sizeLine∧(a == sysModules) = false∧∃ xs:List (List Key × Addr × Value),
   Paired (fun (p:List Key × V) (q:List Key × Addr × Value) => p.1 = q.1∧H q.2.1 = some (.tup (p.1.map kV))∧Z6 p.2 q.2.2) kvs xs ∧
   ∃ o es ep,h.get? a = some o∧o.ExactDict∧o.data = .dict es ep∧es.toList = xs.map (entryOfKey (tupleKind (mixKind P w)))∧(xs.map (·.1)).Nodup
 | .set S n => h.SetOf (intKind P w) a S n
 | .ins C dx fs => H dx = some (.own a)∧fs.length ≤ 1000∧dx ≠ a∧h.get? a = some (PySem.W.instObj C dx) ∧
   ∃ mA,h.Ns1 dx mA∧(∀ f,RelO (fs.lookup f) (mA f))∧PySem.Within mA (fs.map (·.1))
 | .own _ => ∃ o,h.get? a = some o
 | .xd fs => ∃ mA,h.Ns1 a mA∧∀ f,RelO (fs.lookup f) (mA f)
 | .rng lo hi => ∃ t u v,h.get? a = some { cls:=.type "range",data:=.fields #[.int lo t,.int hi u,.int 1 v] }
 | .frz o u => h.get? a = some o∧Y0 H h a u
 | .tbl ps => h.get? a = some { cls:=.none,data:=.fields ps }
 | .met f x => h.get? a = some (PySem.W.methodObj (.ref f) (.ref x))
 | .ext φ => φ h∧(∃ o,h.get? a = some o)∧∀ h1 h2:Heap,φ h1→(∀ o,h1.get? a = some o→h2.get? a = some o)→φ h2
def HOk (H:Hp) (h:Heap):Prop:=∀ a o,H a = some o→Y0 P w H h a o
end
section
variable {P:Program} {w:World} {H H':Hp} {h h':Heap} {a:Addr} {o:HO}
theorem Y0.lt (x:Y0 P w H h a o):a < h.objs.size:=by
 cases o with
 | lst xs => obtain ⟨_,_,_,_,e⟩:=x; exact Heap.lt_size e
 | tup xs => obtain ⟨_,_,_,p⟩:=x; exact p.lt
 | dK kvs => obtain ⟨_,_,_,_,o,_,_,e,_⟩:=x; exact Heap.lt_size e
 | dT kvs => obtain ⟨_,_,_,_,o,_,_,e,_⟩:=x; exact Heap.lt_size e
 | set S n => obtain ⟨o,_,_,_,e,_⟩:=x; exact Heap.lt_size e
 | ins C dx fs => obtain ⟨_,_,_,e,_⟩:=x; exact Heap.lt_size e
 | own y => obtain ⟨_,e⟩:=x; exact Heap.lt_size e
 | xd fs => obtain ⟨_,⟨_,_,_,e,_⟩,_⟩:=x; exact Heap.lt_size e
 | rng lo hi => obtain ⟨_,_,_,e⟩:=x; exact Heap.lt_size e
 | frz ob u => obtain ⟨e,_⟩:=x; exact Heap.lt_size e
 | tbl ps => exact Heap.lt_size (show h.get? a = some _ from x)
 | met f y => exact Heap.lt_size (show h.get? a = some _ from x)
 | ext φ => obtain ⟨_,⟨_,e⟩,_⟩:=x; exact Heap.lt_size e
theorem Paired.mapP {α β:Type} {F G:α→β→Prop}:∀ {l₁:List α} {l₂:List β},Paired F l₁ l₂→(∀ a b,F a b→G a b)→Paired G l₁ l₂
 | _,_,.nil,_ => .nil
 | _,_,.cons r t,f => .cons (f _ _ r) (Paired.mapP t f)
theorem Y0.stay (x:Y0 P w H h a o) (k:∀ b u,(b = a ∨ H b = some (.own a))→h.get? b = some u→h'.get? b = some u)
  (ho:∀ b,H b = some (.own a)→H' b = some (.own a)) (ht:∀ b xs,H b = some (.tup xs)→H' b = some (.tup xs)):Y0 P w H' h' a o:=by
 induction o with
 | lst xs => obtain ⟨z,its,n,r,e⟩:=x; exact ⟨z,its,n,r,k _ _ (.inl rfl) e⟩
 | tup xs => obtain ⟨z,its,r,ob,e,c⟩:=x; exact ⟨z,its,r,ob,k _ _ (.inl rfl) e,c⟩
 | dK kvs => obtain ⟨z,y,vs,r,ob,es,ep,e,c⟩:=x; exact ⟨z,y,vs,r,ob,es,ep,k _ _ (.inl rfl) e,c⟩
 | dT kvs =>
  obtain ⟨z,y,xs,r,ob,es,ep,e,c⟩:=x
  exact ⟨z,y,xs,Paired.mapP r fun p q z => ⟨z.1,ht _ _ z.2.1,z.2.2⟩,ob,es,ep,k _ _ (.inl rfl) e,c⟩
 | set S n => obtain ⟨ob,es,ep,t,e,c⟩:=x; exact ⟨ob,es,ep,t,k _ _ (.inl rfl) e,c⟩
 | ins C dx fs =>
  obtain ⟨d,z,ne,e,mA,⟨od,es,ep,e2,c⟩,r⟩:=x
  exact ⟨ho _ d,z,ne,k _ _ (.inl rfl) e,mA,⟨od,es,ep,k _ _ (.inr d) e2,c⟩,r⟩
 | own y => obtain ⟨ob,e⟩:=x; exact ⟨ob,k _ _ (.inl rfl) e⟩
 | xd fs => obtain ⟨mA,⟨od,es,ep,e,c⟩,r⟩:=x; exact ⟨mA,⟨od,es,ep,k _ _ (.inl rfl) e,c⟩,r⟩
 | rng lo hi => obtain ⟨t,u,v,e⟩:=x; exact ⟨t,u,v,k _ _ (.inl rfl) e⟩
 | frz ob u ih => obtain ⟨e,q⟩:=x; exact ⟨k _ _ (.inl rfl) e,ih q⟩
 | tbl ps =>
  have e:h.get? a = some { cls:=.none,data:=.fields ps }:=x
  show h'.get? a = some { cls:=.none,data:=.fields ps }
  exact k a _ (.inl rfl) e
 | met f y =>
  have e:h.get? a = some (PySem.W.methodObj (.ref f) (.ref y)):=x
  show h'.get? a = some (PySem.W.methodObj (.ref f) (.ref y))
  exact k a _ (.inl rfl) e
 | ext φ => obtain ⟨p,⟨o,e⟩,st⟩:=x; exact ⟨st _ _ p fun o q => k _ _ (.inl rfl) q,⟨o,k _ _ (.inl rfl) e⟩,st⟩
theorem HOk.lt (x:HOk P w H h) (e:H a = some o):a < h.objs.size:=(x a o e).lt
theorem HOk.fresh (x:HOk P w H h) (e:h.objs.size ≤ a):H a = none:=by
 cases q:H a with
 | none => rfl
 | some u => exact absurd (Nat.lt_of_lt_of_le (x.lt q) e) (Nat.lt_irrefl _)
theorem HOk.kept (x:HOk P w H h) (k:∀ b u,h.get? b = some u→h'.get? b = some u):HOk P w H h':=fun a o e =>
 (x a o e).stay (fun b u _ q => k b u q) (fun _ q => q) fun _ _ q => q
theorem HOk.laid (x:HOk P w H h) (k:∀ b u,h.get? b = some u→h'.get? b = some u) (hp:h.objs.size ≤ a) (new:Y0 P w (Zo H a o) h' a o):HOk P w (Zo H a o) h':=fun b u e => by
 have hn:=x.fresh hp
 by_cases hb:b = a
 ·subst hb; rw [Zq] at e; cases e; exact new
 ·rw [Zt hb] at e
  exact (x b u e).stay (fun c v _ q => k c v q) (fun c q => by rw [Zt (Zu q hn)]; exact q) fun c xs q => by rw [Zt (Zu q hn)]; exact q
end
def Rd (H:Hp) (a:Addr) (u:HO):Prop:=H a = some u ∨ ∃ o,H a = some (.frz o u)
theorem Rd.of {H:Hp} {a:Addr} {u:HO} (h:H a = some u):Rd H a u:=.inl h
theorem Rd.ok {P:Program} {w:World} {H:Hp} {h:Heap} {a:Addr} {u:HO} (r:Rd H a u) (x:HOk P w H h):Y0 P w H h a u:=by
 rcases r with r | ⟨o,r⟩
 ·exact x a u r
 ·obtain ⟨_,q⟩:=x a _ r
  exact q
def Mut:Option HO→Prop
 | some (.lst _) => True
 | some (.dK _) => True
 | some (.dT _) => True
 | some (.set _ _) => True
 | some (.ins _ _ _) => True
 | some (.ext _) => True
 | _ => False
section
variable {P:Program} {w:World} {H:Hp} {h h':Heap} {x e:Addr} {o':HO}
theorem HOk.write (ok:HOk P w H h) (mu:Mut (H x)) (he:e = x ∨ H e = some (.own x)) (k:∀ b u,b ≠ e→h.get? b = some u→h'.get? b = some u) (heo:∃ u,h'.get? e = some u)
  (new:Y0 P w (Zo H x o') h' x o'):HOk P w (Zo H x o') h':=fun b u q => by
 have nown:∀ c y,H c = some (.own y)→c ≠ x:=fun c y r z => by subst z; rw [r] at mu; exact mu
 have ntup:∀ c xs,H c = some (.tup xs)→c ≠ x:=fun c xs r z => by subst z; rw [r] at mu; exact mu
 by_cases hb:b = x
 ·subst hb; rw [Zq] at q; cases q; exact new
 ·rw [Zt hb] at q
  by_cases hbe:b = e
  ·have q':H b = some (.own x):=by
    rcases he with z | z
    ·exact absurd (hbe.trans z) hb
    ·rw [hbe]; exact z
   rw [q] at q'; cases q'
   obtain ⟨v,hv⟩:=heo
   exact ⟨v,by rw [hbe]; exact hv⟩
  ·refine (ok b u q).stay (fun c v hc r => k c v ?_ r) (fun c r => by rw [Zt (nown c b r)]; exact r) fun c xs r => by rw [Zt (ntup c xs r)]; exact r
   rcases hc with rfl | hc
   ·exact hbe
   ·rintro rfl
    rcases he with z | z
    ·exact nown c b hc z
    ·rw [hc] at z; cases z; exact hb rfl
end
structure Un (fs ex:List Addr) (H H':Hp) (h h':Heap):Prop where
 keep:∀ b o,h.get? b = some o→H b = none→b ∉ fs→b ∉ ex→h'.get? b = some o
 slot:∀ b o,h.get? b = some o→H b = none→b ∈ fs→b ∉ ex→∃ sl,h'.get? b = some { o with slots:=sl }
 free:∀ b o,h.get? b = some o→H b = none→b ∉ ex→H' b = none
 there:∀ b o,h.get? b = some o→b ∉ ex→∃ o',h'.get? b = some o'
 tups:∀ b xs,H b = some (.tup xs)→H' b = some (.tup xs)
 frzs:∀ b o u,H b = some (.frz o u)→H' b = some (.frz o u)
 tbls:∀ b ps,H b = some (.tbl ps)→∃ more,H' b = some (.tbl (ps ++ more))
section
variable {fs fs' ex ex':List Addr} {H H1 H2:Hp} {h h1 h2 h':Heap} {a x e:Addr} {o:HO}
theorem Un.any (u:Un fs ex H H1 h h1) {b:Addr} {ob:Obj} (q:h.get? b = some ob) (n:H b = none) (hx:b ∉ ex):∃ sl,h1.get? b = some { ob with slots:=sl }:=by
 by_cases hb:b ∈ fs
 ·exact u.slot b ob q n hb hx
 ·exact ⟨ob.slots,u.keep b ob q n hb hx⟩
theorem Un.trans (a:Un fs ex H H1 h h1) (b:Un fs ex H1 H2 h1 h2):Un fs ex H H2 h h2 where
 keep:=fun c ob q n hc hx => b.keep c ob (a.keep c ob q n hc hx) (a.free c ob q n hx) hc hx
 slot:=fun c ob q n hc hx => by
  obtain ⟨sl,e1⟩:=a.slot c ob q n hc hx
  obtain ⟨sl',e2⟩:=b.slot c _ e1 (a.free c ob q n hx) hc hx
  exact ⟨sl',e2⟩
 free:=fun c ob q n hx => by
  obtain ⟨o',e1⟩:=a.there c ob q hx
  exact b.free c o' e1 (a.free c ob q n hx) hx
 there:=fun c ob q hx => by
  obtain ⟨o',e1⟩:=a.there c ob q hx
  exact b.there c o' e1 hx
 tups:=fun c xs q => b.tups c xs (a.tups c xs q)
 frzs:=fun c ob xs q => b.frzs c ob xs (a.frzs c ob xs q)
 tbls:=fun c ps q => by
  obtain ⟨m1,e1⟩:=a.tbls c ps q
  obtain ⟨m2,e2⟩:=b.tbls c _ e1
  exact ⟨m1 ++ m2,by rw [e2,Array.append_assoc]⟩
theorem Un.kept (k:∀ b u,h.get? b = some u→h'.get? b = some u):Un fs ex H H h h' :=
 ⟨fun b ob q _ _ _ => k b ob q,fun b ob q _ _ _ => ⟨ob.slots,k b ob q⟩,fun _ _ _ n _ => n,fun b ob q _ => ⟨ob,k b ob q⟩,fun _ _ q => q,fun _ _ _ q => q,fun _ ps q => ⟨#[],by rw [q]; simp⟩⟩
theorem Un.refl:Un fs ex H H h h:=Un.kept fun _ _ q => q
theorem Un.laid (k:∀ b u,h.get? b = some u→h'.get? b = some u) (hp:h.objs.size ≤ a) (hn:H a = none):Un fs ex H (Zo H a o) h h' where
 keep:=fun b u q _ _ _ => k b u q
 slot:=fun b u q _ _ _ => ⟨u.slots,k b u q⟩
 free:=fun b u q n _ => by rw [Zt (Nat.ne_of_lt (Nat.lt_of_lt_of_le (Heap.lt_size q) hp))]; exact n
 there:=fun b u q _ => ⟨u,k b u q⟩
 tups:=fun b xs q => by rw [Zt (Zu q hn)]; exact q
 frzs:=fun b u xs q => by rw [Zt (Zu q hn)]; exact q
 tbls:=fun b ps q => ⟨#[],by rw [Zt (Zu q hn),q]; simp⟩
theorem Un.write (mu:Mut (H x)) (he:e = x ∨ H e = some (.own x)) (k:∀ b u,b ≠ e→h.get? b = some u→h'.get? b = some u) (heo:∃ u,h'.get? e = some u):Un fs ex H (Zo H x o) h h':=by
 have hx:∀ b,H b = none→b ≠ x:=fun b n z => by subst z; rw [n] at mu; exact mu
 have hb:∀ b,H b = none→b ≠ e:=fun b n z => by
  subst z
  rcases he with r | r
  ·exact hx b n r
  ·rw [n] at r; cases r
 have hm:∀ b u,H b = some u→¬ Mut (some u)→b ≠ x:=fun b u q nm z => by subst z; rw [q] at mu; exact nm mu
 refine ⟨fun b u q n _ _ => k b u (hb b n) q,fun b u q n _ _ => ⟨u.slots,k b u (hb b n) q⟩,fun b u q n _ => by rw [Zt (hx b n)]; exact n,fun b u q _ => ?_,
  fun b xs q => by rw [Zt (hm b _ q fun z => z)]; exact q,fun b u xs q => by rw [Zt (hm b _ q fun z => z)]; exact q,fun b ps q => ⟨#[],by rw [Zt (hm b _ q fun z => z),q]; simp⟩⟩
 by_cases hbe:b = e
 ·subst hbe; exact heo
 ·exact ⟨u,k b u hbe q⟩
theorem Un.mono (u:Un fs ex H H1 h h1) (hs:∀ b ∈ fs,b ∈ fs') (hx:∀ b ∈ ex,b ∈ ex'):Un fs' ex' H H1 h h1 :=
 ⟨fun b ob q n hb he => u.keep b ob q n (fun z => hb (hs b z)) fun z => he (hx b z),fun _ _ q n _ he => u.any q n fun z => he (hx _ z),fun b ob q n he => u.free b ob q n fun z => he (hx b z),fun b ob q he => u.there b ob q fun z => he (hx b z),u.tups,u.frzs,u.tbls⟩
end
def trk (h:Heap) (H:Hp):List Addr:=(List.range h.objs.size).filter fun a => (H a).isSome
def hidT (h:Heap) (H:Hp):Heap:=PySem.W.hideAll h (trk h H)
theorem hidT_size (h:Heap) (H:Hp):(hidT h H).objs.size = h.objs.size:=PySem.W.hideAll_size _ _
theorem hidT_get {h:Heap} {H:Hp} {b:Addr} {o:Obj} (e:h.get? b = some o) (n:H b = none):(hidT h H).get? b = some o :=
 PySem.W.hideAll_get _ e fun hm => by
  have q:(H b).isSome = true:=(List.mem_filter.mp hm).2
  rw [n] at q; simp at q
theorem of_hidT {h:Heap} {H:Hp} {b:Addr} {o:Obj} (e:(hidT h H).get? b = some o):h.get? b = some o∧H b = none:=by
 have e':h.get? b = some o:=PySem.W.of_hideAll (trk h H) e
 refine ⟨e', ?_⟩
 cases q:H b with
 | none => rfl
 | some x =>
  have hm:b ∈ trk h H:=List.mem_filter.mpr ⟨List.mem_range.mpr (Heap.lt_size e'),by simp [q]⟩
  have z:(hidT h H).get? b = none:=PySem.W.hideAll_none (trk h H) hm
  rw [z] at e; cases e
def allNews (g h:Heap) (L:Addr):List (Addr × Obj):=(List.range h.objs.size).filterMap fun a => if a = L ∨ (g.get? a).isSome = true then none else (h.get? a).map fun o => (a,o)
def rest (g h:Heap) (L d:Addr):List (Addr × Obj):=(allNews g h L).filter fun p => decide (p.1 ≠ d)
structure Mod (K:PySem.W.Frag) (mg:Str→Option Value) (base:Heap):Prop where
 kin:K.In base
 glob:base.Ns mainGlobals mg
 blt:∃ mb,base.Ns builtinsNs mb∧∀ x:Str,x ≠ "__name__" → mb x = bootBuiltins x
 nolimit:base.NoLimit
structure Cx where
 prog:Program
 w:World
 K:PySem.W.Frag
 mg:Str→Option Value
 base:Heap
 A:Around
 N:List Str
 s₀:Shared
 H₀:Hp
 env:Env
 outer:List Env
 stack:List Env
 ex:List Addr
 fn:Str→Bool
 calm:Bool
 pn:List (Addr × Obj)
 xe:Value→Shared→Prop
def frs (l:List Env):List Addr:=l.filterMap (·.frame)
abbrev Cx.fs (X:Cx):List Addr:=frs X.outer
def Vis (sc:Scope) (x:Str):Prop:=sc.names.lookup x = some .local ∨ sc.names.lookup x = some .cell ∨ sc.names.lookup x = some .free
def Loc (sc:Scope) (x:Str):Prop:=sc.names.lookup x = some .local ∨ sc.names.lookup x = some .cell
def Look (env:Env) (h:Heap) (m:Str→Option Value) (x:Str) (u:Value):Prop :=
 (env.kindOf x = some .local∧m x = some u) ∨ ((env.kindOf x = some .cell ∨ env.kindOf x = some .free)∧∃ c,env.cells.lookup x = some c∧h.IsCell c (some u))
structure Cx.Ok (X:Cx):Prop where
 mod:Mod X.K X.mg X.base
 kind:X.env.scope.kind = .function
 glob:X.env.globals = mainGlobals
 blt:X.env.builtins = builtinsNs
 above:X.s₀.heap.objs.size ≤ X.env.locals
 inj:∀ x y c,X.env.cells.lookup x = some c→X.env.cells.lookup y = some c→x = y
 has:∀ x,(X.env.kindOf x = some .cell ∨ X.env.kindOf x = some .free)→∃ c,X.env.cells.lookup x = some c
 cab:∀ x c,X.fn x = true→X.env.cells.lookup x = some c→X.s₀.heap.objs.size ≤ c
 hd:X.calm = true→X.A.handled = none
 frames:X.A.frames = some X.stack
 stk:X.stack = X.outer ∨ (X.stack = X.env :: X.outer∧X.env.frame = some X.env.locals)
 exf:∀ b ∈ X.ex,b ≠ X.env.locals∧∀ x c,X.env.cells.lookup x = some c→c ≠ b
 bs:∀ b o,X.base.get? b = some o→X.s₀.heap.get? b = some o∧X.H₀ b = none
 bsz:X.base.objs.size ≤ X.s₀.heap.objs.size
 noex:∀ b o,X.base.get? b = some o→b ∉ X.ex
 exfs:∀ b ∈ X.ex,b ∉ X.fs
 funs:X.s₀.heap.FunFrames X.base X.outer
 frf:∀ b ∈ X.fs,X.H₀ b = none
structure Zn (X:Cx) (pins:List (Addr × Obj)) (σ:List (Option V)) (H:Hp) (s:Shared):Prop where
 ok:X.Ok
 os:s.os = X.s₀.os
 bare:AllBare s.gens
 base:Un X.fs X.ex X.H₀ H X.s₀.heap s.heap
 loc:∃ m,s.heap.Ns X.env.locals m∧∀ (i:Nat) (x:Str) (v:V),X.N[i]? = some x→σ[i]? = some (some v)→Vis X.env.scope x→∃ u,Z6 v u∧Look X.env s.heap m x u
 cell:∀ x c,X.env.cells.lookup x = some c→∃ v,s.heap.IsCell c v
 free:H X.env.locals = none
 freeC:∀ x c,X.env.cells.lookup x = some c→H c = none
 pin:∀ p ∈ X.pn ++ pins,s.heap.get? p.1 = some p.2∧H p.1 = none∧p.1 ≠ X.env.locals∧p.1 ∉ X.fs∧∀ v,p.2.data ≠ .cell v
 hok:HOk X.prog X.w H s.heap
 len:σ.length = X.N.length
section
variable {X:Cx} {pins:List (Addr × Obj)} {σ:List (Option V)} {H H':Hp} {s:Shared} {h':Heap}
theorem Cx.Ok.nofr (ok:X.Ok) {b:Addr} {o:Obj} (e:X.base.get? b = some o):b ∉ X.fs:=fun hb => by
 have:=(ok.funs.mem hb).1
 rw [e] at this; cases this
theorem Zn.bs (I:Zn X pins σ H s):∀ b o,X.base.get? b = some o→s.heap.get? b = some o∧H b = none:=fun b o e =>
 ⟨I.base.keep b o (I.ok.bs b o e).1 (I.ok.bs b o e).2 (I.ok.nofr e) (I.ok.noex b o e),I.base.free b o (I.ok.bs b o e).1 (I.ok.bs b o e).2 (I.ok.noex b o e)⟩
theorem Zn.bk (I:Zn X pins σ H s):∀ b o,X.base.get? b = some o→s.heap.get? b = some o:=fun b o e => (I.bs b o e).1
theorem Zn.mod (I:Zn X pins σ H s):Mod X.K X.mg X.base:=I.ok.mod
theorem Zn.kIn (I:Zn X pins σ H s):X.K.In s.heap:=I.ok.mod.kin.keeps I.bk
theorem Zn.fr (I:Zn X pins σ H s):∃ m,Fr X.base X.env.locals s.heap m :=
 let ⟨m,hn,_⟩:=I.loc
 ⟨m,hn,I.bk,Nat.le_trans I.ok.bsz I.ok.above⟩
theorem Zn.lt (I:Zn X pins σ H s):X.env.locals < s.heap.objs.size:=let ⟨_,hn,_⟩:=I.loc; hn.lt
theorem Zn.sz (I:Zn X pins σ H s):X.s₀.heap.objs.size ≤ s.heap.objs.size:=Nat.le_trans I.ok.above (Nat.le_of_lt I.lt)
theorem Zn.nofs (I:Zn X pins σ H s) {a:Addr} (h:s.heap.objs.size ≤ a):a ∉ X.fs:=fun hb => by
 obtain ⟨_,o,ho,_⟩:=I.ok.funs.mem hb
 exact absurd (Nat.lt_of_lt_of_le (Heap.lt_size ho) (Nat.le_trans I.sz h)) (Nat.lt_irrefl _)
theorem Zn.cne (I:Zn X pins σ H s):∀ x c,X.env.cells.lookup x = some c→c ≠ X.env.locals:=fun x c e z => by
 obtain ⟨v,o,ho,hd⟩:=I.cell x c e
 obtain ⟨m,⟨o',es,ep,ho',hd',_⟩,_⟩:=I.loc
 rw [z,ho'] at ho; cases ho; rw [hd'] at hd; cases hd
theorem Zn.funs (I:Zn X pins σ H s):s.heap.FunFrames X.base X.outer:=by
 have all:∀ (l:List Env),(∀ b ∈ frs l,b ∈ X.fs)→X.s₀.heap.FunFrames X.base l→s.heap.FunFrames X.base l:=by
  intro l
  induction l with
  | nil => intro _ _; trivial
  | cons env r ih =>
   intro hs hl
   obtain ⟨hk,⟨L,o,hf,hn,ho,hd⟩,hr⟩:=hl
   have hL:L ∈ X.fs:=hs L (by unfold frs; rw [List.filterMap_cons,hf]; exact List.mem_cons_self)
   obtain ⟨sl,e⟩:=I.base.slot L o ho (I.ok.frf L hL) hL fun z => I.ok.exfs L z hL
   exact ⟨hk,⟨L,_,hf,hn,e,hd⟩,ih (fun b hb => hs b (by unfold frs; rw [List.filterMap_cons,hf]; exact List.mem_cons_of_mem _ hb)) hr⟩
 exact all X.outer (fun _ hb => hb) I.ok.funs
theorem Zn.stack (I:Zn X pins σ H s):s.heap.FunFrames X.base X.stack:=by
 rcases I.ok.stk with e | ⟨e,hf⟩
 ·rw [e]; exact I.funs
 ·rw [e]
  obtain ⟨m,hn,_⟩:=I.loc
  refine .cons (by rw [I.ok.kind]; decide) hf hn ?_ I.funs
  exact Heap.get?_none_of_le (Nat.le_trans I.ok.bsz I.ok.above)
theorem Zn.stkSub (I:Zn X pins σ H s):∀ b ∈ frs X.stack,b ∈ X.env.locals :: X.fs:=fun b hb => by
 rcases I.ok.stk with e | ⟨e,hf⟩
 ·rw [e] at hb; exact List.mem_cons_of_mem _ hb
 ·rw [e] at hb
  unfold frs at hb
  rw [List.filterMap_cons,hf] at hb
  exact hb
theorem Zn.stkFree (I:Zn X pins σ H s):∀ b ∈ frs X.stack,H b = none:=fun b hb => by
 rcases List.mem_cons.mp (I.stkSub b hb) with e | hb
 ·rw [e]; exact I.free
 ·obtain ⟨_,o,ho,_⟩:=I.ok.funs.mem hb
  exact I.base.free b o ho (I.ok.frf b hb) fun z => I.ok.exfs b z hb
theorem Zn.step {g':Array GenState} {t':Nat} {d':Drawn} {ch:List Addr} (I:Zn X pins σ H s)
  (hch:∀ b ∈ ch,(b ∈ X.ex ∨ X.s₀.heap.objs.size ≤ b)∧b ≠ X.env.locals∧(∀ x c,X.env.cells.lookup x = some c→c ≠ b)∧∀ p ∈ X.pn ++ pins,p.1 ≠ b)
  (keep:∀ b o,b ≠ X.env.locals→b ∉ X.fs→b ∉ ch→s.heap.get? b = some o→H b = none→h'.get? b = some o)
  (slot:∀ b o,b ≠ X.env.locals→b ∈ X.fs→b ∉ ch→s.heap.get? b = some o→H b = none→∃ sl,h'.get? b = some { o with slots:=sl }) (free:∀ b o,b ∉ ch→s.heap.get? b = some o→H b = none→H' b = none)
  (there:∀ b o,b ∉ ch→s.heap.get? b = some o→∃ o',h'.get? b = some o')
  (tups:∀ b xs,H b = some (.tup xs)→H' b = some (.tup xs)) (frzs:∀ b o u,H b = some (.frz o u)→H' b = some (.frz o u)) (tbls:∀ b ps,H b = some (.tbl ps)→∃ more,H' b = some (.tbl (ps ++ more)))
  (ns:∀ m,s.heap.Ns X.env.locals m→h'.Ns X.env.locals m) (hok:HOk X.prog X.w H' h') (hg:AllBare g') :
  Zn X pins σ H' { s with heap:=h',gens:=g',drawn:=d',toks:=t' }:=by
 have neL:∀ b o,X.s₀.heap.get? b = some o→b ≠ X.env.locals:=fun b o e => Nat.ne_of_lt (Nat.lt_of_lt_of_le (Heap.lt_size e) I.ok.above)
 have neC:∀ b o,X.s₀.heap.get? b = some o→b ∉ X.ex→b ∉ ch:=fun b o e hx hb => by
  rcases (hch b hb).1 with z | z
  ·exact hx z
  ·exact absurd (Nat.lt_of_lt_of_le (Heap.lt_size e) z) (Nat.lt_irrefl _)
 have cellK:∀ x c,X.env.cells.lookup x = some c→∀ v,s.heap.IsCell c v→h'.IsCell c v:=fun x c e v ⟨o,ho,hd⟩ => by
  have nch:c ∉ ch:=fun z => (hch c z).2.2.1 x c e rfl
  by_cases hc:c ∈ X.fs
  ·obtain ⟨sl,q⟩:=slot c o (I.cne x c e) hc nch ho (I.freeC x c e)
   exact ⟨_,q,hd⟩
  ·exact ⟨o,keep c o (I.cne x c e) hc nch ho (I.freeC x c e),hd⟩
 refine ⟨I.ok,I.os,hg,⟨fun b o e n hb hx => ?_,fun b o e n hb hx => ?_,fun b o e n hx => ?_,fun b o e hx => ?_,fun b xs e => tups b xs (I.base.tups b xs e),fun b o xs e => frzs b o xs (I.base.frzs b o xs e),fun b ps e => ?_⟩, ?_,fun x c e => ?_, ?_,fun x c e => ?_,fun p hp => ?_,hok,I.len⟩
 ·exact keep b o (neL b o e) hb (neC b o e hx) (I.base.keep b o e n hb hx) (I.base.free b o e n hx)
 ·obtain ⟨sl,e1⟩:=I.base.slot b o e n hb hx
  obtain ⟨sl',e2⟩:=slot b _ (neL b o e) hb (neC b o e hx) e1 (I.base.free b o e n hx)
  exact ⟨sl',e2⟩
 ·obtain ⟨o',e1⟩:=I.base.there b o e hx
  exact free b o' (neC b o e hx) e1 (I.base.free b o e n hx)
 ·obtain ⟨o',e1⟩:=I.base.there b o e hx
  exact there b o' (neC b o e hx) e1
 ·obtain ⟨m1,e1⟩:=I.base.tbls b ps e
  obtain ⟨m2,e2⟩:=tbls b _ e1
  exact ⟨m1 ++ m2,by rw [e2,Array.append_assoc]⟩
 ·obtain ⟨m,hn,hl⟩:=I.loc
  refine ⟨m,ns m hn,fun i x v e1 e2 e3 => ?_⟩
  obtain ⟨u,r,l⟩:=hl i x v e1 e2 e3
  refine ⟨u,r, ?_⟩
  rcases l with l | ⟨k,c,e,z⟩
  ·exact .inl l
  ·exact .inr ⟨k,c,e,cellK x c e _ z⟩
 ·obtain ⟨v,z⟩:=I.cell x c e
  exact ⟨v,cellK x c e v z⟩
 ·obtain ⟨m,⟨o,_,_,ho,_⟩,_⟩:=I.loc
  exact free _ o (fun z => (hch _ z).2.1 rfl) ho I.free
 ·obtain ⟨v,o,ho,hd⟩:=I.cell x c e
  exact free c o (fun z => (hch c z).2.2.1 x c e rfl) ho (I.freeC x c e)
 ·obtain ⟨e,n,ne,nf,d⟩:=I.pin p hp
  have nch:p.1 ∉ ch:=fun z => (hch p.1 z).2.2.2 p hp rfl
  exact ⟨keep p.1 p.2 ne nf nch e n,free p.1 p.2 nch e n,ne,nf,d⟩
theorem Zn.un {t':Nat} (I:Zn X pins σ H s) (u:Un X.fs [] H H' s.heap h') (hok:HOk X.prog X.w H' h'):Zn X pins σ H' { s with heap:=h',toks:=t' }:=by
 obtain ⟨m,⟨o,es,ep,ho,r⟩,_⟩:=id I.loc
 obtain ⟨sl,hL⟩:=u.any ho I.free (by simp)
 exact I.step (g':=s.gens) (d':=s.drawn) (ch:=[]) (fun _ z => nomatch z) (fun b o _ hb _ e n => u.keep b o e n hb (by simp)) (fun b o _ hb _ e n => u.slot b o e n hb (by simp)) (fun b o _ e n => u.free b o e n (by simp)) (fun b o _ e => u.there b o e (by simp)) u.tups u.frzs u.tbls (fun m' hm => by
  obtain ⟨o',es',ep',ho',r'⟩:=hm
  rw [ho] at ho'; cases ho'
  exact ⟨_,es',ep',hL,r'⟩) hok I.bare
theorem Zn.call {g':Array GenState} {t':Nat} {d':Drawn} {ch:List Addr} (I:Zn X pins σ H s) (u:Un (frs X.stack) ch H H' s.heap h') (hok:HOk X.prog X.w H' h') (hg:AllBare g')
  (hch:∀ b ∈ ch,(b ∈ X.ex ∨ X.s₀.heap.objs.size ≤ b)∧b ≠ X.env.locals∧(∀ x c,X.env.cells.lookup x = some c→c ≠ b)∧∀ p ∈ X.pn ++ pins,p.1 ≠ b) :
  Zn X pins σ H' { s with heap:=h',gens:=g',drawn:=d',toks:=t' }:=by
 obtain ⟨m,⟨o,es,ep,ho,r⟩,_⟩:=id I.loc
 obtain ⟨sl,hL⟩:=u.any ho I.free fun z => (hch _ z).2.1 rfl
 exact I.step (ch:=ch) hch (fun b o hL hb hc e n => u.keep b o e n (fun z => (List.mem_cons.mp (I.stkSub b z)).elim hL hb) hc) (fun b o _ _ hc e n => u.any e n hc) (fun b o hc e n => u.free b o e n hc) (fun b o hc e => u.there b o e hc) u.tups u.frzs u.tbls (fun m' hm => by
  obtain ⟨o',es',ep',ho',r'⟩:=hm
  rw [ho] at ho'; cases ho'
  exact ⟨_,es',ep',hL,r'⟩) hok hg
theorem Zn.turned {t':Nat} {it:Addr} (I:Zn X pins σ H s) (k:∀ b o,b ≠ it→s.heap.get? b = some o→h'.get? b = some o) (hn:H it = none) (hL:it ≠ X.env.locals)
  (h1:it ∈ X.ex ∨ X.s₀.heap.objs.size ≤ it) (h2:∀ x c,X.env.cells.lookup x = some c→c ≠ it) (h3:∀ p ∈ X.pn ++ pins,p.1 ≠ it):Zn X pins σ H { s with heap:=h',toks:=t' }:=by
 have nit:∀ b u,H b = some u→b ≠ it:=fun b u e z => by rw [z,hn] at e; cases e
 refine I.step (g':=s.gens) (d':=s.drawn) (ch:=[it]) (fun b hb => ?_) (fun b o _ _ hc e _ => k b o (fun z => hc (by simp [z])) e) (fun b o _ _ hc e _ => ⟨o.slots,k b o (fun z => hc (by simp [z])) e⟩) (fun _ _ _ _ n => n)
  (fun b o hc e => ⟨o,k b o (fun z => hc (by simp [z])) e⟩) (fun _ _ e => e) (fun _ _ _ e => e) (fun b ps e => ⟨#[],by rw [e]; simp⟩) (fun m hm => ?_) (fun b u e => ?_) I.bare
 ·have e:b = it:=by simpa using hb
  subst e
  exact ⟨h1,hL,h2,h3⟩
 ·obtain ⟨o,es,ep,ho,r⟩:=hm
  exact ⟨o,es,ep,k _ o (Ne.symm hL) ho,r⟩
 ·refine (I.hok b u e).stay (fun c v hc q => k c v ?_ q) (fun _ q => q) fun _ _ q => q
  rcases hc with z | z
  ·rw [z]; exact nit b u e
  ·exact nit c _ z
theorem Zn.tok (I:Zn X pins σ H s) (t:Nat):Zn X pins σ H { s with toks:=t }:=I.un (h':=s.heap) (t':=t) Un.refl I.hok
theorem Zn.kept {t':Nat} (I:Zn X pins σ H s) (k:∀ b u,s.heap.get? b = some u→h'.get? b = some u):Zn X pins σ H { s with heap:=h',toks:=t' }:=I.un (Un.kept k) (I.hok.kept k)
theorem Zn.laid {a:Addr} {o:HO} {t':Nat} (I:Zn X pins σ H s) (k:∀ b u,s.heap.get? b = some u→h'.get? b = some u) (hp:s.heap.objs.size ≤ a) (new:Y0 X.prog X.w (Zo H a o) h' a o) :
  Zn X pins σ (Zo H a o) { s with heap:=h',toks:=t' }:=I.un (Un.laid k hp (I.hok.fresh hp)) (I.hok.laid k hp new)
theorem Zn.write {x e:Addr} {o:HO} {t':Nat} (I:Zn X pins σ H s) (mu:Mut (H x)) (he:e = x ∨ H e = some (.own x)) (k:∀ b u,b ≠ e→s.heap.get? b = some u→h'.get? b = some u) (heo:∃ u,h'.get? e = some u)
  (new:Y0 X.prog X.w (Zo H x o) h' x o):Zn X pins σ (Zo H x o) { s with heap:=h',toks:=t' }:=I.un (Un.write mu he k heo) (I.hok.write mu he k heo new)
theorem Zn.pins_of {pins':List (Addr × Obj)} (I:Zn X pins σ H s) (h:∀ p ∈ pins',s.heap.get? p.1 = some p.2∧H p.1 = none∧p.1 ≠ X.env.locals∧p.1 ∉ X.fs∧∀ v,p.2.data ≠ .cell v):Zn X pins' σ H s :=
 ⟨I.ok,I.os,I.bare,I.base,I.loc,I.cell,I.free,I.freeC,fun p hp => (List.mem_append.mp hp).elim (fun z => I.pin p (List.mem_append_left _ z)) (h p),I.hok,I.len⟩
theorem nodup_ix {N:List Str} (hN:N.Nodup) {i j:Nat} {x:Str} (a:N[i]? = some x) (b:N[j]? = some x):i = j:=by
 obtain ⟨h1,e1⟩:=List.getElem?_eq_some_iff.mp a
 obtain ⟨h2,e2⟩:=List.getElem?_eq_some_iff.mp b
 exact (List.getElem_inj hN).mp (e1.trans e2.symm)
theorem store_ok2 {M:Model} {A:Around} {E:Value→Shared→Prop} {i:Nat} {x:Str} {v:V} {u:Value} {Q:Unit→Shared→Prop} (I:Zn X pins σ H s) (hN:X.N.Nodup) (hi:X.N[i]? = some x) (hx:Loc X.env.scope x) (r:Z6 v u)
  (h:∀ s',Zn X pins (σ.set i (some v)) H s'→(∃ a,Heap.SameBut a s.heap s'.heap∧(a = X.env.locals ∨ X.env.cells.lookup x = some a))→Q () s') (hf:X.fn x = true ∨ X.env.scope.names.lookup x = some .local:=by first | exact .inl rfl | exact .inr rfl | assumption):wpAny M A (storeName X.env x u) Q E s:=by
 obtain ⟨m,hn,hl⟩:=id I.loc
 have hcls:(X.env.scope.kind == .class || (X.env.scope.kind == .module && X.env.locals != X.env.globals)) = false:=by rw [I.ok.kind]; rfl
 have hiσ:i < σ.length:=by rw [I.len]; exact (List.getElem?_eq_some_iff.mp hi).1
 have cne:=I.cne
 have tracked:∀ {a:Addr} {h':Heap},(∃ o,s.heap.get? a = some o∧H a = none)→Heap.SameBut a s.heap h'→HOk X.prog X.w H h':=fun {a h'} ha hs b ob e => by
  obtain ⟨_,_,hfree⟩:=ha
  refine (I.hok b ob e).stay (fun c w' hc q => (hs.2 c ?_).trans q) (fun _ q => q) fun _ _ q => q
  rintro rfl
  rcases hc with rfl | hc
  ·rw [hfree] at e; cases e
  ·rw [hfree] at hc; cases hc
 rcases hx with hk | hk
 ·refine wpAny_storeName_local hk hn (fun h' hn' hs => ?_) hcls
  obtain ⟨oL,_,_,hoL,_⟩:=id hn
  refine h _ ⟨I.ok,I.os,I.bare,⟨fun b o e n hb hx => ?_,fun b o e n hb hx => ?_,I.base.free,fun b o e hx => ?_,I.base.tups,I.base.frzs,I.base.tbls⟩,⟨_,hn',fun j y v' e1 e2 e3 => ?_⟩,fun y c e => ?_,I.free,I.freeC,fun p hp => ?_,tracked ⟨oL,hoL,I.free⟩ hs,by simpa using I.len⟩ ⟨_,hs,.inl rfl⟩
  ·exact (hs.2 b (Nat.ne_of_lt (Nat.lt_of_lt_of_le (Heap.lt_size e) I.ok.above))).trans (I.base.keep b o e n hb hx)
  ·obtain ⟨sl,e1⟩:=I.base.slot b o e n hb hx
   exact ⟨sl,(hs.2 b (Nat.ne_of_lt (Nat.lt_of_lt_of_le (Heap.lt_size e) I.ok.above))).trans e1⟩
  ·obtain ⟨o',e1⟩:=I.base.there b o e hx
   exact ⟨o',(hs.2 b (Nat.ne_of_lt (Nat.lt_of_lt_of_le (Heap.lt_size e) I.ok.above))).trans e1⟩
  ·by_cases hj:j = i
   ·subst hj
    rw [hi] at e1; cases e1
    rw [List.getElem?_set_self hiσ] at e2
    cases e2
    exact ⟨u,r,.inl ⟨hk,by simp⟩⟩
   ·rw [List.getElem?_set_ne (Ne.symm hj)] at e2
    obtain ⟨u',r',q⟩:=hl j y v' e1 e2 e3
    refine ⟨u',r', ?_⟩
    rcases q with ⟨k,e⟩ | ⟨k,c,e,z⟩
    ·refine .inl ⟨k, ?_⟩
     have:y ≠ x:=fun e => hj (nodup_ix hN e1 (e ▸ hi))
     simp [this,e]
    ·exact .inr ⟨k,c,e,z.sameBut hs (cne y c e)⟩
  ·obtain ⟨w',z⟩:=I.cell y c e
   exact ⟨w',z.sameBut hs (cne y c e)⟩
  ·obtain ⟨e,n,ne,nf,d⟩:=I.pin p hp
   exact ⟨(hs.2 p.1 ne).trans e,n,ne,nf,d⟩
 ·have hfn:X.fn x = true:=by
   rcases hf with z | z
   ·exact z
   ·rw [z] at hk; cases hk
  obtain ⟨c,hc⟩:=I.ok.has x (.inl hk)
  obtain ⟨w',z⟩:=I.cell x c hc
  refine wpAny_storeName_cell I.ok.kind hk hc z (fun h' hc' hs => ?_)
  obtain ⟨oc,hoc,hocd⟩:=id z
  refine h { s with heap:=h' } ⟨I.ok,I.os,I.bare,⟨fun b o e n hb hx => ?_,fun b o e n hb hx => ?_,I.base.free,fun b o e hx => ?_,I.base.tups,I.base.frzs,I.base.tbls⟩,⟨m,hn.sameBut hs (Ne.symm (cne x c hc)),fun j y v' e1 e2 e3 => ?_⟩,fun y c' e => ?_,I.free,I.freeC,fun p hp => ?_,tracked ⟨oc,hoc,I.freeC x c hc⟩ hs,by simpa using I.len⟩ ⟨c,hs,.inr hc⟩
  ·exact (hs.2 b (Nat.ne_of_lt (Nat.lt_of_lt_of_le (Heap.lt_size e) (I.ok.cab x c hfn hc)))).trans (I.base.keep b o e n hb hx)
  ·obtain ⟨sl,e1⟩:=I.base.slot b o e n hb hx
   exact ⟨sl,(hs.2 b (Nat.ne_of_lt (Nat.lt_of_lt_of_le (Heap.lt_size e) (I.ok.cab x c hfn hc)))).trans e1⟩
  ·obtain ⟨o',e1⟩:=I.base.there b o e hx
   exact ⟨o',(hs.2 b (Nat.ne_of_lt (Nat.lt_of_lt_of_le (Heap.lt_size e) (I.ok.cab x c hfn hc)))).trans e1⟩
  ·by_cases hj:j = i
   ·subst hj
    rw [hi] at e1; cases e1
    rw [List.getElem?_set_self hiσ] at e2
    cases e2
    exact ⟨u,r,.inr ⟨.inl hk,c,hc,hc'⟩⟩
   ·rw [List.getElem?_set_ne (Ne.symm hj)] at e2
    obtain ⟨u',r',q⟩:=hl j y v' e1 e2 e3
    refine ⟨u',r', ?_⟩
    rcases q with q | ⟨k,c',e,z'⟩
    ·exact .inl q
    ·refine .inr ⟨k,c',e,z'.sameBut hs ?_⟩
     rintro rfl
     exact hj (nodup_ix hN e1 (I.ok.inj _ _ _ e hc ▸ hi))
  ·by_cases hcc:c' = c
   ·subst hcc; exact ⟨_,hc'⟩
   ·obtain ⟨w2,z2⟩:=I.cell y c' e
    exact ⟨w2,z2.sameBut hs hcc⟩
  ·obtain ⟨e,n,ne,nf,d⟩:=I.pin p hp
   refine ⟨(hs.2 p.1 ?_).trans e,n,ne,nf,d⟩
   intro q
   rw [q,hoc] at e
   have q':oc = p.2:=Option.some.inj e
   exact d w' (by rw [← q']; exact hocd)
theorem store_ok {M:Model} {A:Around} {E:Value→Shared→Prop} {i:Nat} {x:Str} {v:V} {u:Value} {Q:Unit→Shared→Prop} (I:Zn X pins σ H s) (hN:X.N.Nodup) (hi:X.N[i]? = some x) (hx:Loc X.env.scope x) (r:Z6 v u)
  (h:∀ s',Zn X pins (σ.set i (some v)) H s'→Q () s') (hf:X.fn x = true ∨ X.env.scope.names.lookup x = some .local:=by first | exact .inl rfl | exact .inr rfl | assumption):wpAny M A (storeName X.env x u) Q E s :=
 store_ok2 I hN hi hx r (fun s' I' _ => h s' I') hf
theorem Zn.call' {s':Shared} {ch:List Addr} (I:Zn X pins σ H s) (ho:s'.os = s.os) (u:Un (frs X.stack) ch H H' s.heap s'.heap) (hok:HOk X.prog X.w H' s'.heap) (hg:AllBare s'.gens)
  (hch:∀ b ∈ ch,(b ∈ X.ex ∨ X.s₀.heap.objs.size ≤ b)∧b ≠ X.env.locals∧(∀ x c,X.env.cells.lookup x = some c→c ≠ b)∧∀ p ∈ X.pn ++ pins,p.1 ≠ b):Zn X pins σ H' s':=by
 obtain ⟨h',g',d',t',o'⟩:=s'
 have e:o' = s.os:=ho
 subst e
 exact I.call (g':=g') (t':=t') (d':=d') u hok hg hch
end
abbrev XK:=Value→Option Addr→Hp→Prop
abbrev St:=List (Option V)
abbrev VK:=V→Hp→Prop
abbrev TE:=St→Hp→VK→Prop
abbrev TT:=St→Hp→(Bool→Hp→Prop)→Prop
abbrev TA:=St→Hp→(List V→Hp→Prop)→Prop
structure Ends where
 nx:St→Hp→Prop
 rt:VK
 bk:St→Hp→Prop:=fun _ _ => False
 ct:St→Hp→Prop:=fun _ _ => False
abbrev TS:=Ends→St→Hp→Prop
def EP (X:Cx) (pins:List (Addr × Obj)) (σ:St) (Q:VK) (u:Value) (s':Shared):Prop:=∃ v H',Zn X pins σ H' s'∧Z6 v u∧Q v H'
def TP (X:Cx) (pins:List (Addr × Obj)) (σ:St) (Q:Bool→Hp→Prop) (b:Bool) (s':Shared):Prop:=∃ H',Zn X pins σ H' s'∧Q b H'
def AP (X:Cx) (pins:List (Addr × Obj)) (σ:St) (Q:List V→Hp→Prop) (us:List Value) (s':Shared):Prop:=∃ vs H',Zn X pins σ H' s'∧Z1 vs us∧Q vs H'
def SP (X:Cx) (pins:List (Addr × Obj)) (D:Ends) (f:Flow) (s':Shared):Prop :=
 match f with
 | .next => ∃ σ' H',Zn X pins σ' H' s'∧D.nx σ' H'
 | .brk => ∃ σ' H',Zn X pins σ' H' s'∧D.bk σ' H'
 | .cont => ∃ σ' H',Zn X pins σ' H' s'∧D.ct σ' H'
 | .ret u => ∃ v σ' H',Zn X pins σ' H' s'∧Z6 v u∧D.rt v H'
def PE (X:Cx) (e:Expr) (t:TE):Prop :=
 ∀ (pins:List (Addr × Obj)) (s:Shared) (σ:St) (H:Hp) (Q:VK),Zn X pins σ H s→t σ H Q→wpAny (model X.prog X.w) X.A (eval e X.env) (EP X pins σ Q) X.xe s
def PT (X:Cx) (e:Expr) (t:TT):Prop :=
 ∀ (pins:List (Addr × Obj)) (s:Shared) (σ:St) (H:Hp) (Q:Bool→Hp→Prop),Zn X pins σ H s→t σ H Q→wpAny (model X.prog X.w) X.A (isTrue e X.env (eval e X.env)) (TP X pins σ Q) X.xe s
def PW (X:Cx) (e:Expr) (t:TT):Prop :=
 ∀ (whole:Sem Value) (pins:List (Addr × Obj)) (s:Shared) (σ:St) (H:Hp) (Q:Bool→Hp→Prop),Zn X pins σ H s→t σ H Q→wpAny (model X.prog X.w) X.A (isTrue e X.env whole) (TP X pins σ Q) X.xe s
theorem PW.pt {X:Cx} {e:Expr} {t:TT} (h:PW X e t):PT X e t:=h _
def PA (X:Cx) (es:List Expr) (t:TA):Prop :=
 ∀ (pos:Pos) (pins:List (Addr × Obj)) (s:Shared) (σ:St) (H:Hp) (Q:List V→Hp→Prop),Zn X pins σ H s→t σ H Q→wpAny (model X.prog X.w) X.A (spliced (backTo pos (starEach es X.env))) (AP X pins σ Q) X.xe s
def PS (X:Cx) (st:Stmt) (t:TS):Prop :=
 ∀ (pins:List (Addr × Obj)) (s:Shared) (σ:St) (H:Hp) (D:Ends),Zn X pins σ H s→t D σ H→wpAny (model X.prog X.w) X.A (exec st X.env) (SP X pins D) X.xe s
def PSs (X:Cx) (st:List Stmt) (t:TS):Prop :=
 ∀ (pins:List (Addr × Obj)) (s:Shared) (σ:St) (H:Hp) (D:Ends),Zn X pins σ H s→t D σ H→wpAny (model X.prog X.w) X.A (execs st X.env) (SP X pins D) X.xe s
theorem Vx {α:Type} {t:Sem α} {Q Q':α→Shared→Prop} {M:Model} {A:Around} {E:Value→Shared→Prop} {s:Shared} (h:wpAny M A t Q E s) (hQ:∀ a s,Q a s→Q' a s):wpAny M A t Q' E s:=wpAny_mono h hQ fun _ _ x => x
section
variable {X:Cx}
def tVar (i:Nat):TE:=fun σ H Q => ∃ v,σ[i]? = some (some v)∧Q v H
def tC (v:V):TE:=fun _ H Q => Q v H
theorem pe_var {i:Nat} {x:Str} {pos:Pos} (hN:X.N[i]? = some x) (hv:Vis X.env.scope x) (hd:(x == ("__debug__" : Str)) = false:=by decide) (hcd:(x == ("__classdict__" : Str)) = false:=by decide):PE X (.Name x pos) (tVar i):=by
 intro pins s σ H Q I h
 obtain ⟨v,e,h⟩:=h
 obtain ⟨m,hn,hl⟩:=I.loc
 obtain ⟨u,r,l⟩:=hl i x v hN e hv
 have fin:EP X pins σ Q u s:=⟨v,H,I,r,h⟩
 rcases l with ⟨hk,hm⟩ | ⟨hk,c,hc,hcell⟩
 ·exact wpAny_Name (wpAny_loadName_local I.ok.kind hk hn hm fin) hd
 ·rcases hk with hk | hk
  ·exact wpAny_Name (wpAny_loadName_cell I.ok.kind hk hc hcell fin) hd
  ·exact wpAny_Name (wpAny_loadName_free I.ok.kind hk hc hcell fin hcd) hd
theorem Zz {i j pos}:PE X (.Constant (.int i) j pos) (tC (.int i)):=fun _ _ _ H _ I h => wpAny_Constant_int ⟨.int i,H,I.tok _,⟨_,rfl⟩,h⟩
theorem pe_bl {b j pos}:PE X (.Constant (.bool b) j pos) (tC (.bl b)):=fun _ _ _ H _ I h => Constant_bool ⟨.bl b,H,I,rfl,h⟩
theorem pe_non {j pos}:PE X (.Constant .none j pos) (tC .non):=fun _ _ _ H _ I h => Constant_none ⟨.non,H,I,rfl,h⟩
theorem Zd {x j pos}:PE X (.Constant (.str x) j pos) (tC (.str x)):=fun _ _ _ H _ I h => Calls.Constant_str ⟨.str x,H,I.tok _,⟨_,rfl⟩,h⟩
def Gl (X:Cx) (x:Str):Prop:=X.env.kindOf x = some .globalImplicit
theorem ld_glob {E:Value→Shared→Prop} {pins:List (Addr × Obj)} {s:Shared} {σ:St} {H:Hp} {x:Str} {u:Value} {pos:Pos} {Q:Value→Shared→Prop} (I:Zn X pins σ H s) (hg:Gl X x) (hm:X.mg x = some u) (h:Q u s)
  (hd:(x == ("__debug__" : Str)) = false:=by decide):wpAny (model X.prog X.w) X.A (eval (.Name x pos) X.env) Q E s :=
 Calls.Name_function_global I.ok.kind hg (Calls.loadGlobal_global (by rw [I.ok.glob]; exact I.mod.glob.keeps I.bk) hm h) hd
theorem ld_blt {E:Value→Shared→Prop} {pins:List (Addr × Obj)} {s:Shared} {σ:St} {H:Hp} {x:Str} {u:Value} {pos:Pos} {Q:Value→Shared→Prop} (I:Zn X pins σ H s) (hg:Gl X x) (hm:X.mg x = none) (hv:bootBuiltins x = some u) (h:Q u s)
  (hn:x ≠ "__name__" := by decide) (hd:(x == ("__debug__" : Str)) = false:=by decide):wpAny (model X.prog X.w) X.A (eval (.Name x pos) X.env) Q E s:=by
 obtain ⟨mb,h1,h2⟩:=I.mod.blt
 exact Calls.Name_function_global I.ok.kind hg (Calls.loadGlobal_builtin (by rw [I.ok.glob]; exact I.mod.glob.keeps I.bk) hm (by rw [I.ok.blt]; exact h1.keeps I.bk) ((h2 x hn).trans hv) h) hd
theorem pe_glob {x:Str} {v:V} {u:Value} {pos:Pos} (hg:Gl X x) (hm:X.mg x = some u) (r:Z6 v u) (hd:(x == ("__debug__" : Str)) = false:=by decide):PE X (.Name x pos) (tC v) :=
 fun _ _ _ H _ I h => ld_glob I hg hm ⟨v,H,I,r,h⟩ hd
theorem pe_bltn {x:Str} {v:V} {u:Value} {pos:Pos} (hg:Gl X x) (hm:X.mg x = none) (hv:bootBuiltins x = some u) (r:Z6 v u) (hn:x ≠ "__name__" := by decide) (hd:(x == ("__debug__" : Str)) = false:=by decide):PE X (.Name x pos) (tC v) :=
 fun _ _ _ H _ I h => ld_blt I hg hm hv ⟨v,H,I,r,h⟩ hn hd
variable {a b:Expr} {ta tb:TE} {pos:Pos}
def tB (t:TE):TT:=fun σ H Q => t σ H fun x H1 => ∃ c,x = .bl c∧Q c H1
theorem pt_val {e:Expr} {t:TE} (h:PE X e t) (he:∀ whole,isTrue e X.env whole = (do let v ← whole; standAt e.pos; holding [v] (truthy v)):=by intro _; rfl):PT X e (tB t):=by
 intro pins s σ H Q I hw
 refine isTrue_plain (Vx (h pins s σ H _ I hw) fun v s1 ⟨x,H1,I1,r1,q1⟩ => ?_) (he _)
 obtain ⟨d,rfl,q⟩:=q1
 cases r1
 exact wpAny_truthy_bool ⟨H1,I1,q⟩
variable {tA tB':TT} {rest:List Expr}
def tAnd (t u:TT):TT:=fun σ H Q => t σ H fun c H1 => if c = true then u σ H1 Q else Q false H1
def tOr (t u:TT):TT:=fun σ H Q => t σ H fun c H1 => if c = true then Q true H1 else u σ H1 Q
def tNot (t:TT):TT:=fun σ H Q => t σ H fun c H1 => Q (!c) H1
theorem pw_and1 (ha:PT X a tA):PW X (.BoolOp .And [a] pos) tA:=by
 intro wh pins s σ H Q I h
 refine isTrue_and (Vx (ha pins s σ H Q I h) fun c s1 e => ?_)
 cases c with
 | true => exact isTrue_and_nil e
 | false => exact e
theorem pw_or1 (ha:PT X a tA):PW X (.BoolOp .Or [a] pos) tA:=by
 intro wh pins s σ H Q I h
 refine isTrue_or (Vx (ha pins s σ H Q I h) fun c s1 e => ?_)
 cases c with
 | false => exact isTrue_or_nil e
 | true => exact e
theorem pw_and (ha:PT X a tA) (hb:PW X (.BoolOp .And (b :: rest) pos) tB'):PW X (.BoolOp .And (a :: b :: rest) pos) (tAnd tA tB'):=by
 intro wh pins s σ H Q I h
 refine isTrue_and (Vx (ha pins s σ H _ I h) fun c s1 ⟨H1,I1,q1⟩ => ?_)
 cases c with
 | true => exact hb wh pins s1 σ H1 Q I1 q1
 | false => exact ⟨H1,I1,q1⟩
theorem pw_or (ha:PT X a tA) (hb:PW X (.BoolOp .Or (b :: rest) pos) tB'):PW X (.BoolOp .Or (a :: b :: rest) pos) (tOr tA tB'):=by
 intro wh pins s σ H Q I h
 refine isTrue_or (Vx (ha pins s σ H _ I h) fun c s1 ⟨H1,I1,q1⟩ => ?_)
 cases c with
 | true => exact ⟨H1,I1,q1⟩
 | false => exact hb wh pins s1 σ H1 Q I1 q1
theorem pt_not (ha:PT X a tA):PT X (.UnaryOp .Not a pos) (tNot tA):=by
 intro pins s σ H Q I h
 exact isTrue_not (ha pins s σ H (fun c H1 => Q (!c) H1) I h)
def tIf (t:TT) (ta tb:TE):TE:=fun σ H Q => t σ H fun c H1 => if c = true then ta σ H1 Q else tb σ H1 Q
theorem pe_ifExp {c:Expr} (hc:PT X c tA) (ha:PE X a ta) (hb:PE X b tb):PE X (.IfExp c a b pos) (tIf tA ta tb):=by
 intro pins s σ H Q I h
 refine wpAny_IfExp (Vx (hc pins s σ H _ I h) fun d s1 ⟨H1,I1,q1⟩ => ?_)
 cases d with
 | true => exact ha pins s1 σ H1 Q I1 q1
 | false => exact hb pins s1 σ H1 Q I1 q1
end
def Yg (K:PySem.W.Frag) (H:Hp) (a:Addr) (xs:List V):Prop :=
 Rd H a (.lst xs) ∨
  ∃ (o:Obj) (its:Array Value) (n:Nat),K.lookup a = some o∧o.cls = .type "list" ∧ o.dict = none∧o.data = .seq its n∧its.size ≤ sizeLine∧Z1 xs its.toList
def Z9 (K:PySem.W.Frag) (H:Hp) (a:Addr) (xs:List V):Prop :=
 Rd H a (.tup xs) ∨
  ∃ (o:Obj) (its:Array Value) (n:Nat),K.lookup a = some o∧o.cls = .type "tuple" ∧ o.data = .seq its n∧its.size ≤ sizeLine∧Z1 xs its.toList
def absV:Value→Option V
 | .none => some .non
 | .bool b => some (.bl b)
 | .int i _ => some (.int i)
 | .str x _ => some (.str x)
 | .bytes b _ => some (.byt b)
 | .float b _ => some (.flt b)
 | .ref a => some (.ref a)
 | .type n => some (.ty n)
 | _ => none
theorem Z6.abs {x:V} {u:Value} (r:Z6 x u):absV u = some x:=by
 cases x with
 | non => cases r; rfl
 | bl _ => cases r; rfl
 | int _ => obtain ⟨t,rfl⟩:=r; rfl
 | str _ => obtain ⟨t,rfl⟩:=r; rfl
 | byt _ => obtain ⟨t,rfl⟩:=r; rfl
 | flt _ => obtain ⟨t,rfl⟩:=r; rfl
 | ref _ => cases r; rfl
 | ty _ => cases r; rfl
theorem Z6.inj {x y:V} {u:Value} (r:Z6 x u) (q:Z6 y u):x = y:=Option.some.inj (r.abs.symm.trans q.abs)
theorem Z1.inj:∀ {xs ys:List V} {us:List Value},Z1 xs us→Z1 ys us→xs = ys
 | _,_,_,.nil,.nil => rfl
 | _,_,_,.cons r t,.cons r' t' => by rw [r.inj r',Z1.inj t t']
section
variable {X:Cx} {pins:List (Addr × Obj)} {σ:St} {H:Hp} {s:Shared} {a:Addr} {xs ys:List V}
theorem Yg.of {K:PySem.W.Frag} (h:H a = some (.lst xs)):Yg K H a xs:=.inl (.inl h)
theorem Z9.of {K:PySem.W.Frag} (h:H a = some (.tup xs)):Z9 K H a xs:=.inl (.inl h)
theorem Zn.list (I:Zn X pins σ H s) (h:Yg X.K H a xs):∃ its:List Value,Z1 xs its∧PlainL s.heap a its.toArray∧xs.length ≤ sizeLine:=by
 rcases h with h | ⟨o,its,n,hk,hc,hd,hs,hz,r⟩
 ·obtain ⟨z,its,n,r,e⟩:=h.ok I.hok
  exact ⟨its,r,⟨_,n,e,rfl,rfl,rfl⟩,z⟩
 ·refine ⟨its.toList,r,⟨o,n,I.kIn a o hk,hc,hd,by simpa using hs⟩, ?_⟩
  have e:=r.length
  simp only [Array.length_toList] at e
  omega
theorem Zn.tuple (I:Zn X pins σ H s) (h:Z9 X.K H a xs):∃ its:List Value,Z1 xs its∧IsTup s.heap a its.toArray∧xs.length ≤ sizeLine:=by
 rcases h with h | ⟨o,its,n,hk,hc,hs,hz,r⟩
 ·obtain ⟨z,its,r,p⟩:=h.ok I.hok
  exact ⟨its,r,p,z⟩
 ·refine ⟨its.toList,r,⟨o,I.kIn a o hk,hc,n,by simpa using hs⟩, ?_⟩
  have e:=r.length
  simp only [Array.length_toList] at e
  omega
theorem Zn.list_inj (I:Zn X pins σ H s) (h:Yg X.K H a xs) (h':Yg X.K H a ys):xs = ys:=by
 obtain ⟨its,r,⟨o,n,e,_,_,d⟩,_⟩:=I.list h
 obtain ⟨its',r',⟨o',n',e',_,_,d'⟩,_⟩:=I.list h'
 rw [e] at e'; cases e'
 rw [d] at d'
 injection d' with d1 _
 have:its = its':=by simpa using congrArg Array.toList d1
 subst this
 exact r.inj r'
theorem Zn.tuple_inj (I:Zn X pins σ H s) (h:Z9 X.K H a xs) (h':Z9 X.K H a ys):xs = ys:=by
 obtain ⟨its,r,⟨o,e,_,n,d⟩,_⟩:=I.tuple h
 obtain ⟨its',r',⟨o',e',_,n',d'⟩,_⟩:=I.tuple h'
 rw [e] at e'; cases e'
 rw [d] at d'
 injection d' with d1 _
 have:its = its':=by simpa using congrArg Array.toList d1
 subst this
 exact r.inj r'
end
abbrev Cx.wish (X:Cx) (E:Value→Shared→Prop):Cx:={ X with xe:=E }
abbrev Cx.nox (X:Cx):Cx:=X.wish fun _ _ => False
theorem Cx.Ok.wish {X:Cx} (ok:X.Ok) (E:Value→Shared→Prop):(X.wish E).Ok :=
 ⟨ok.mod,ok.kind,ok.glob,ok.blt,ok.above,ok.inj,ok.has,ok.cab,ok.hd,ok.frames,ok.stk,ok.exf,ok.bs,ok.bsz,ok.noex,ok.exfs,ok.funs,ok.frf⟩
theorem Cx.Ok.unwish {X:Cx} {E:Value→Shared→Prop} (ok:(X.wish E).Ok):X.Ok :=
 ⟨ok.mod,ok.kind,ok.glob,ok.blt,ok.above,ok.inj,ok.has,ok.cab,ok.hd,ok.frames,ok.stk,ok.exf,ok.bs,ok.bsz,ok.noex,ok.exfs,ok.funs,ok.frf⟩
section
variable {X:Cx} {pins:List (Addr × Obj)} {σ:St} {H:Hp} {s:Shared} {E:Value→Shared→Prop}
theorem Zn.wish (I:Zn X pins σ H s) (E:Value→Shared→Prop):Zn (X.wish E) pins σ H s:=⟨I.ok.wish E,I.os,I.bare,I.base,I.loc,I.cell,I.free,I.freeC,I.pin,I.hok,I.len⟩
theorem Zn.unwish (I:Zn (X.wish E) pins σ H s):Zn X pins σ H s:=⟨I.ok.unwish,I.os,I.bare,I.base,I.loc,I.cell,I.free,I.freeC,I.pin,I.hok,I.len⟩
theorem SP.unwish {D:Ends} {f:Flow} {s':Shared} (h:SP (X.wish E) pins D f s'):SP X pins D f s':=by
 cases f with
 | next => obtain ⟨σ',H',I,q⟩:=h; exact ⟨σ',H',I.unwish,q⟩
 | brk => obtain ⟨σ',H',I,q⟩:=h; exact ⟨σ',H',I.unwish,q⟩
 | cont => obtain ⟨σ',H',I,q⟩:=h; exact ⟨σ',H',I.unwish,q⟩
 | ret u => obtain ⟨v,σ',H',I,r,q⟩:=h; exact ⟨v,σ',H',I.unwish,r,q⟩
theorem PSs.nox {st:List Stmt} {t:TS} (h:PSs X.nox st t):PSs X st t:=fun pins s σ H D I hw =>
 wpAny_mono (h pins s σ H D (I.wish _) hw) (fun _ _ q => q.unwish) fun _ _ z => False.elim z
end
section
variable {X:Cx} {st:Stmt} {rest:List Stmt} {t u:TS} {e:Expr} {te:TE} {pos:Pos}
def tNext:TS:=fun D σ H => D.nx σ H
def tSeq (t u:TS):TS:=fun D σ H => t { D with nx:=u D } σ H
theorem Zi:PSs X [] tNext:=fun _ _ σ H _ I h => wpAny_execs_nil ⟨σ,H,I,h⟩
theorem Zj (h1:PS X st t) (h2:PSs X rest u):PSs X (st :: rest) (tSeq t u):=by
 intro pins s σ H D I h
 refine wpAny_execs_cons (Vx (h1 pins s σ H { D with nx:=u D } I h) fun f s1 q => ?_)
 cases f with
 | next =>
  obtain ⟨σ',H',I',q⟩:=q
  exact h2 pins s1 σ' H' D I' q
 | ret v => exact q
 | brk => exact q
 | cont => exact q
theorem Zv (h1:PS X st t):PSs X [st] t:=by
 intro pins s σ H D I h
 refine wpAny_execs_cons (Vx (h1 pins s σ H D I h) fun f s1 q => ?_)
 cases f with
 | next => exact wpAny_execs_nil q
 | ret v => exact q
 | brk => exact q
 | cont => exact q
theorem Zn.quiet {pins:List (Addr × Obj)} {σ:St} {H:Hp} {s:Shared} (I:Zn X pins σ H s):interactive X.env = false:=by simp [interactive,I.ok.kind]
def tDrop (te:TE):TS:=fun D σ H => te σ H fun _ H1 => D.nx σ H1
theorem ps_expr (he:PE X e te) (hs:swapsWith e none pos.line X.env = pure false:=by rfl):PS X (.Expr e pos) (tDrop te):=by
 intro pins s σ H D I h
 exact wpAny_Expr_any (Vx (he pins s σ H _ I h) fun v s1 ⟨x,H1,I1,r1,q1⟩ => ⟨σ,H1,I1,q1⟩) I.quiet hs
def tRet (te:TE):TS:=fun D σ H => te σ H D.rt
theorem Zr (he:PE X e te):PS X (.Return (some e) pos) (tRet te):=by
 intro pins s σ H D I h
 exact wpAny_Return_some (Vx (he pins s σ H _ I h) fun v s1 ⟨x,H1,I1,r1,q1⟩ => ⟨x,σ,H1,I1,r1,q1⟩)
def tIfS (c:TT) (t u:TS):TS:=fun D σ H => c σ H fun b H1 => if b = true then t D σ H1 else u D σ H1
theorem Yk {c:Expr} {a b:List Stmt} {tc:TT} (hc:PT X c tc) (ha:PSs X a t) (hb:PSs X b u):PS X (.If c a b pos) (tIfS tc t u):=by
 intro pins s σ H D I h
 refine wpAny_If (Vx (hc pins s σ H _ I h) fun d s1 ⟨H1,I1,q1⟩ => ?_)
 cases d with
 | true => exact ha pins s1 σ H1 D I1 q1
 | false => exact hb pins s1 σ H1 D I1 q1
end
abbrev TG:=V→St→Hp→(St→Hp→Prop)→Prop
abbrev TGs:=List V→St→Hp→(St→Hp→Prop)→Prop
def PG (X:Cx) (target:Expr) (t:TG):Prop :=
 ∀ (pins:List (Addr × Obj)) (s:Shared) (σ:St) (H:Hp) (v:V) (u:Value) (Q:St→Hp→Prop),Zn X pins σ H s→Z6 v u→t v σ H Q →
  wpAny (model X.prog X.w) X.A (assign target X.env u) (fun _ s' => ∃ σ' H',Zn X pins σ' H' s'∧Q σ' H') X.xe s
def PGs (X:Cx) (ts:List Expr) (t:TGs):Prop :=
 ∀ (pins:List (Addr × Obj)) (s:Shared) (σ:St) (H:Hp) (vs:List V) (us:List Value) (Q:St→Hp→Prop),Zn X pins σ H s→Z1 vs us→t vs σ H Q →
  wpAny (model X.prog X.w) X.A (assignInOrder ((assignEach ts X.env).map (·.2)) us) (fun _ s' => ∃ σ' H',Zn X pins σ' H' s'∧Q σ' H') X.xe s
abbrev TSet:=V→V→V→Hp→(Hp→Prop)→Prop
def PSet (X:Cx) (t:TSet):Prop :=
 ∀ (pins:List (Addr × Obj)) (s:Shared) (σ:St) (H:Hp) (o i v:V) (ov iv u:Value) (Q:Hp→Prop),Zn X pins σ H s→Z6 o ov→Z6 i iv→Z6 v u→t o i v H Q →
  wpAny (model X.prog X.w) X.A (setItem ov iv u) (fun _ s' => ∃ H',Zn X pins σ H' s'∧Q H') X.xe s
section
variable {X:Cx} {pos:Pos}
def gName (i:Nat):TG:=fun v σ H Q => Q (σ.set i (some v)) H
theorem pg_name {i:Nat} {x:Str} (hN:X.N.Nodup) (hi:X.N[i]? = some x) (hx:Loc X.env.scope x) (hf:X.fn x = true ∨ X.env.scope.names.lookup x = some .local:=by first | exact .inl rfl | exact .inr rfl | assumption):PG X (.Name x pos) (gName i):=by
 intro pins s σ H v u Q I r h
 exact wpAny_assign_Name (store_ok I hN hi hx r (fun s' I' => ⟨_,H,I',h⟩) hf)
def gNil:TGs:=fun vs σ H Q => vs = []∧Q σ H
def gCons (t:TG) (u:TGs):TGs:=fun vs σ H Q => ∃ v r,vs = v :: r∧t v σ H fun σ' H' => u r σ' H' Q
theorem pgs_nil:PGs X [] gNil:=by
 intro pins s σ H vs us Q I r h
 obtain ⟨e,h⟩:=h
 subst e
 cases r
 exact assignInOrder_nil ⟨σ,H,I,h⟩
theorem Yh {e:Expr} {es:List Expr} {t:TG} {u:TGs} (h1:PG X e t) (h2:PGs X es u)
  (hs:(assignEach (e :: es) X.env).map (·.2) = assign e X.env :: (assignEach es X.env).map (·.2):=by rfl):PGs X (e :: es) (gCons t u):=by
 intro pins s σ H vs us Q I r h
 obtain ⟨v,vr,e1,h⟩:=h
 subst e1
 cases r with
 | cons r rr =>
  rw [hs]
  refine assignInOrder_cons (Vx (h1 pins s σ H _ _ _ I r h) fun _ s1 ⟨σ1,H1,I1,q1⟩ => ?_)
  exact h2 pins s1 σ1 H1 _ _ Q I1 rr q1
def gTup (K:PySem.W.Frag) (n:Nat) (t:TGs):TG:=fun v σ H Q => ∃ a xs,v = .ref a∧Z9 K H a xs∧xs.length = n∧t xs σ H Q
theorem pg_tup {es:List Expr} {k:Nat} {t:TGs} {n:Nat} (hc:X.calm = true) (h:PGs X es t)
  (hn:(assignEach es X.env).length = n:=by rfl) (hst:(assignEach es X.env).findIdx? (·.1) = none:=by rfl):PG X (.Tuple es k pos) (gTup X.K n t):=by
 intro pins s σ H v u Q I r hw
 obtain ⟨a,xs,e1,hq,hl,hw⟩:=hw
 subst e1
 cases r
 obtain ⟨its,rv,ht,hz⟩:=I.tuple hq
 refine assign_Tuple_tuple (I.ok.hd hc) ht (by simp [hn, ← hl,rv.length]) hst fun h' hx => ?_
 have I1:Zn X pins σ H { s with heap:=h' }:=I.kept (t':=s.toks) fun b o e => hx b o (Nat.ne_of_lt (Heap.lt_size e)) e
 exact h pins _ σ H xs _ Q I1 (by simpa using rv) hw
def gSub (to ti:TE) (t:TSet):TG:=fun v σ H Q => to σ H fun o H1 => ti σ H1 fun i H2 => t o i v H2 fun H3 => Q σ H3
theorem pg_sub {o i:Expr} {to ti:TE} {t:TSet} (ho:PE X o to) (hi:PE X i ti) (hs:PSet X t)
  (ha:∀ v,assign (.Subscript o i pos) X.env v = (do
   let ov ← holding [v] (eval o X.env)
   let iv ← holding [v,ov] (eval i X.env)
   standAt pos
   holding [v,ov,iv] (setItem ov iv v)
   release [v,ov,iv] []):=by intro _; rfl):PG X (.Subscript o i pos) (gSub to ti t):=by
 intro pins s σ H v u Q I r h
 rw [ha]
 refine wpAny_bind (wpAny_holding (Vx (ho pins s σ H _ I h) fun ov s1 ⟨x,H1,I1,r1,q1⟩ => ?_))
 refine wpAny_bind (wpAny_holding (Vx (hi pins s1 σ H1 _ I1 q1) fun iv s2 ⟨y,H2,I2,r2,q2⟩ => ?_))
 refine wpAny_bind (wpAny_standAt (wpAny_bind (wpAny_holding (Vx (hs pins s2 σ H2 x y v ov iv u _ I2 r1 r2 r q2) fun _ s3 ⟨H3,I3,q3⟩ => ?_))))
 exact wpAny_release ⟨σ,H3,I3,q3⟩
def tAsg (te:TE) (g:TG):TS:=fun D σ H => te σ H fun x H1 => g x σ H1 D.nx
theorem ps_asg {tg e:Expr} {te:TE} {g:TG} (he:PE X e te) (hg:PG X tg g) (hs:swapsWithSole [tg] e pos.line X.env = pure false:=by rfl) (hw:swappedStores [tg] e X.env = pure none:=by rfl)
  (h1:(assignEach [tg] X.env).map (·.2) = [assign tg X.env]:=by rfl):PS X (.Assign [tg] e pos) (tAsg te g):=by
 intro pins s σ H D I h
 refine wpAny_Assign_stores (Vx (he pins s σ H _ I h) fun v s1 ⟨x,H1,I1,r1,q1⟩ => ?_) hs hw
 rw [h1]
 exact Vx (hg pins s1 σ H1 x v _ I1 r1 q1) fun _ s2 q => q
theorem ps_set {i:Nat} {x:Str} {e:Expr} {te:TE} {pos':Pos} (hN:X.N.Nodup) (hi:X.N[i]? = some x) (hx:Loc X.env.scope x) (he:PE X e te) (hs:swapsWith e (some (.Name x pos')) pos.line X.env = pure false:=by rfl) (hf:X.fn x = true ∨ X.env.scope.names.lookup x = some .local:=by first | exact .inl rfl | exact .inr rfl | assumption) :
  PS X (.Assign [.Name x pos'] e pos) (tAsg te (gName i)):=by
 intro pins s σ H D I h
 refine wpAny_Assign_Name (Vx (he pins s σ H _ I h) fun v s1 ⟨y,H1,I1,r1,q1⟩ => ?_) hs
 exact store_ok I1 hN hi hx r1 (fun s2 I2 => ⟨_,H1,I2,q1⟩) hf
end
section
variable {X:Cx} {pos:Pos}
def tWhile (c:TT) (tb:TS):TS:=fun D σ H => ∃ W:Nat→St→Hp→Prop,(∃ m,W m σ H)∧∀ m σ H,W m σ H →
 c σ H fun b H1 => if b = true then ∃ N:St→Hp→Prop,(∀ σ' H',N σ' H'→∃ m',m' < m∧W m' σ' H')∧tb { D with nx:=N,ct:=N,bk:=D.nx } σ H1 else D.nx σ H1
theorem ps_while {c:Expr} {body:List Stmt} {tc:TT} {tb:TS} (hp:PassesOwn (model X.prog X.w) X.A X.env X.xe) (hc:PT X c tc) (hb:PSs X body tb):PS X (.While c body [] pos) (tWhile tc tb):=by
 intro pins s σ H D I h
 obtain ⟨W,⟨m0,w0⟩,turn⟩:=h
 refine wpAny_While (codeAny_whileLoop (fun n s' => ∃ σ' H',Zn X pins σ' H' s'∧W n σ' H') ?_ m0 ⟨σ,H,I,w0⟩)
 rintro n s1 ⟨σ1,H1,I1,w1⟩
 refine wpAny_passesOwn hp (Vx (hc pins s1 σ1 H1 _ I1 (turn n σ1 H1 w1)) fun b s2 ⟨H2,I2,q2⟩ => ?_)
 cases b with
 | true =>
  obtain ⟨N,hN,q2⟩:=q2
  rw [if_pos rfl]
  refine wpAny_passesOwn hp (Vx (hb pins s2 σ1 H2 _ I2 q2) fun f s3 q3 => ?_)
  cases f with
  | next =>
   obtain ⟨σ3,H3,I3,n3⟩:=q3
   obtain ⟨m',hm,w3⟩:=hN σ3 H3 n3
   exact ⟨m',hm,σ3,H3,I3,w3⟩
  | cont =>
   obtain ⟨σ3,H3,I3,n3⟩:=q3
   obtain ⟨m',hm,w3⟩:=hN σ3 H3 n3
   exact ⟨m',hm,σ3,H3,I3,w3⟩
  | brk => exact q3
  | ret v => exact q3
 | false =>
  rw [if_neg Bool.false_ne_true]
  exact wpAny_execs_nil ⟨σ1,H2,I2,q2⟩
end
structure It where
 go:Nat→Hp→Prop
 yld:Nat→Hp→V→Hp→Prop
 stop:Nat→Hp→Prop
def FpOk (X:Cx) (pins:List (Addr × Obj)) (H:Hp) (b:Addr):Prop :=
 H b = none∧b ≠ X.env.locals∧b ∉ X.fs∧(b ∈ X.ex ∨ X.s₀.heap.objs.size ≤ b)∧(∀ x c,X.env.cells.lookup x = some c→c ≠ b)∧∀ p ∈ X.pn ++ pins,p.1 ≠ b
theorem Zn.fpOk {X:Cx} {pins:List (Addr × Obj)} {σ:St} {H H':Hp} {s:Shared} {b:Addr} (I:Zn X pins σ H s) (hb:s.heap.objs.size ≤ b) (hn:H' b = none):FpOk X pins H' b:=by
 refine ⟨hn,Nat.ne_of_gt (Nat.lt_of_lt_of_le I.lt hb),I.nofs hb,.inr (Nat.le_trans I.sz hb),fun x c e z => ?_,fun p hp z => ?_⟩
 ·obtain ⟨v,q⟩:=I.cell x c e
  exact absurd (Nat.lt_of_lt_of_le q.lt (by rw [z]; exact hb)) (Nat.lt_irrefl _)
 ·exact absurd (Nat.lt_of_lt_of_le (Heap.lt_size (I.pin p hp).1) (by rw [z]; exact hb)) (Nat.lt_irrefl _)
structure Turn (P:Program) (w:World) (K:PySem.W.Frag) (tg:Expr) (J:It) (fp:List Addr) (it:Addr) (tn:Nat→Heap→Prop):Prop where
 mem:it ∈ fp
 obj:∀ i h,tn i h→∀ b ∈ fp,∃ o,h.get? b = some o∧∀ v,o.data ≠ .cell v
 keep:∀ i h h',tn i h→(∀ b ∈ fp,∀ o,h.get? b = some o→h'.get? b = some o)→tn i h'
 item:∀ (X:Cx),X.prog = P→X.w = w→X.K = K→X.calm = true→∀ (i:Nat) (pins:List (Addr × Obj)) (s:Shared) (σ:St) (H:Hp) (E:Value→Shared→Prop),Zn X pins σ H s→(∀ b ∈ fp,FpOk X pins H b)→tn i s.heap→J.go i H →
  wpAny (model P w) X.A (pyNext (.ref it)) (fun r s1 => ∃ u,r = some u ∧
   wpAny (model P w) X.A (letOwnedTupleGo tg (.ref it) u) (fun _ s2 => ∃ x H',Zn X pins σ H' s2∧Z6 x u∧J.yld i H x H'∧tn (i + 1) s2.heap∧∀ b ∈ fp,H' b = none) E s1) E s
 done:∀ (X:Cx),X.prog = P→X.w = w→X.K = K→X.calm = true→∀ (i:Nat) (pins:List (Addr × Obj)) (s:Shared) (σ:St) (H:Hp) (E:Value→Shared→Prop),Zn X pins σ H s→(∀ b ∈ fp,FpOk X pins H b)→tn i s.heap→J.stop i H →
  wpAny (model P w) X.A (pyNext (.ref it)) (fun r s1 => r = none∧Zn X pins σ H s1) E s
 self:∀ (A:Around) (i:Nat) (s:Shared) (Q:Value→Shared→Prop) (E:Value→Shared→Prop),tn i s.heap→Q (.ref it) s→wpAny (model P w) A (pyIter (.ref it)) Q E s
abbrev TI:=St→Hp→(It→Hp→Prop)→Prop
def PIE (X:Cx) (pins:List (Addr × Obj)) (σ:St) (tg:Expr) (R:It→Hp→Prop) (itv:Value) (s2:Shared):Prop :=
 ∃ (it:Addr) (fp:List Addr) (tn:Nat→Heap→Prop) (J:It) (H':Hp),itv = .ref it∧Zn X pins σ H' s2∧Turn X.prog X.w X.K tg J fp it tn∧tn 0 s2.heap∧(∀ b ∈ fp,FpOk X pins H' b)∧R J H'
def PI (X:Cx) (tg iter:Expr) (wi:TI):Prop :=
 ∀ (pins:List (Addr × Obj)) (s:Shared) (σ:St) (H:Hp) (R:It→Hp→Prop),Zn X pins σ H s→wi σ H R →
  wpAny (model X.prog X.w) X.A (eval iter X.env) (fun v s1 => wpAny (model X.prog X.w) X.A (pyIter v) (PIE X pins σ tg R) X.xe s1) X.xe s
theorem go_of {M:Model} {A:Around} {E:Value→Shared→Prop} {s:Shared} {tg:Expr} {it:Addr} {u:Value} {o:Obj} {n:String} {vs:Array Value} {Q:Unit→Shared→Prop} (ho:s.heap.get? it = some o) (hc:o.cls = .type n) (hd:o.data = .fields vs)
    (hn:["enumerate","zip","dict_itemiterator","dict_reverseitemiterator","odict_iterator","itertools.zip_longest","itertools.pairwise"].contains n = false) (hQ:Q () s):wpAny M A (letOwnedTupleGo tg (.ref it) u) Q E s:=by
  unfold letOwnedTupleGo
  cases tg <;> first
    | exact wpAny_pure hQ
    | (cases u <;> first
        | exact wpAny_pure hQ
        | (refine wpAny_bind (wpAny_load ho ?_)
           rw [hc,hd]
           show wpAny M A (if (["enumerate","zip","dict_itemiterator","dict_reverseitemiterator","odict_iterator","itertools.zip_longest","itertools.pairwise"].contains n && vs[0]? == some (rawInt _)) = true then _ else _) Q E s
           rw [if_neg (by intro h; rw [hn,Bool.false_and] at h; cases h)]
           exact wpAny_pure hQ))
def Itl (K:PySem.W.Frag) (a:Addr):It :=
 ⟨fun i H => ∃ xs x,Yg K H a xs∧xs[i]? = some x,fun i H x H' => H' = H∧∀ xs,Yg K H a xs→xs[i]? = some x,fun i H => ∃ xs,Yg K H a xs∧xs.length ≤ i⟩
def Itt (K:PySem.W.Frag) (a:Addr):It :=
 ⟨fun i H => ∃ xs x,Z9 K H a xs∧xs[i]? = some x,fun i H x H' => H' = H∧∀ xs,Z9 K H a xs→xs[i]? = some x,fun i H => ∃ xs,Z9 K H a xs∧xs.length ≤ i⟩
def Itr (lo:Int) (n:Nat):It:=⟨fun i _ => i < n,fun i H x H' => H' = H∧x = .int (lo + i),fun i _ => n ≤ i⟩
theorem turn_list {P:Program} {w:World} {K:PySem.W.Frag} {tg:Expr} (a it:Addr):Turn P w K tg (Itl K a) [it] it (fun i h => h.IsListIter it a i) where
 mem:=by simp
 obj:=fun i h st b hb => by
  have e:b = it:=by simpa using hb
  subst e
  obtain ⟨o,e,c,d⟩:=st
  exact ⟨o,e,fun v z => by rw [d] at z; cases z⟩
 keep:=fun i h h' st k => st.at fun o e => k it (by simp) o e
 item:=by
  intro X hP hw hK hc i pins s σ H E I hf st hg
  subst hP hw hK
  obtain ⟨xs,x,hq,hx⟩:=hg
  obtain ⟨its,rv,p,hz⟩:=I.list hq
  obtain ⟨u,hu,ru⟩:=rv.get hx
  obtain ⟨f0,f1,f2,f3,f4,f5⟩:=hf it (by simp)
  refine wpAny_pyNext_list_item st p.isList (x:=u) (by simpa using hu) fun h' st' sb => ?_
  have I1:Zn X pins σ H { s with heap:=h' }:=I.turned (t':=s.toks) (fun b o hb e => (sb.2 b hb).trans e) f0 f1 f3 f4 f5
  obtain ⟨o,e,c,d⟩:=id st'
  exact ⟨u,rfl,go_of (s:={ s with heap:=h' }) e c d (by decide) ⟨x,H,I1,ru,⟨rfl,fun ys hy => by rw [I.list_inj hy hq]; exact hx⟩,st',fun b hb => (hf b hb).1⟩⟩
 done:=by
  intro X hP hw hK hc i pins s σ H E I hf st hg
  subst hP hw hK
  obtain ⟨xs,hq,hx⟩:=hg
  obtain ⟨its,rv,p,hz⟩:=I.list hq
  obtain ⟨f0,f1,f2,f3,f4,f5⟩:=hf it (by simp)
  have hl:=rv.length
  exact wpAny_pyNext_list_end (I.ok.hd hc) st p.isList (by simp; omega) fun h' eb => ⟨rfl,I.turned (t':=s.toks) (fun b o hb e => eb b o hb e) f0 f1 f3 f4 f5⟩
 self:=fun _ _ _ _ _ st h => wpAny_pyIter_listiter st h
theorem turn_tuple {P:Program} {w:World} {K:PySem.W.Frag} {tg:Expr} (a it:Addr):Turn P w K tg (Itt K a) [it] it (fun i h => h.IsTupleIter it a i) where
 mem:=by simp
 obj:=fun i h st b hb => by
  have e:b = it:=by simpa using hb
  subst e
  obtain ⟨o,e,c,d⟩:=st
  exact ⟨o,e,fun v z => by rw [d] at z; cases z⟩
 keep:=fun i h h' st k => st.at fun o e => k it (by simp) o e
 item:=by
  intro X hP hw hK hc i pins s σ H E I hf st hg
  subst hP hw hK
  obtain ⟨xs,x,hq,hx⟩:=hg
  obtain ⟨its,rv,p,hz⟩:=I.tuple hq
  obtain ⟨u,hu,ru⟩:=rv.get hx
  obtain ⟨f0,f1,f2,f3,f4,f5⟩:=hf it (by simp)
  refine wpAny_pyNext_tuple_item st (show s.heap.IsTuple a its.toArray from p) (x:=u) (by simpa using hu) fun h' st' sb => ?_
  have I1:Zn X pins σ H { s with heap:=h' }:=I.turned (t':=s.toks) (fun b o hb e => (sb.2 b hb).trans e) f0 f1 f3 f4 f5
  obtain ⟨o,e,c,d⟩:=id st'
  exact ⟨u,rfl,go_of (s:={ s with heap:=h' }) e c d (by decide) ⟨x,H,I1,ru,⟨rfl,fun ys hy => by rw [I.tuple_inj hy hq]; exact hx⟩,st',fun b hb => (hf b hb).1⟩⟩
 done:=by
  intro X hP hw hK hc i pins s σ H E I hf st hg
  subst hP hw hK
  obtain ⟨xs,hq,hx⟩:=hg
  obtain ⟨its,rv,p,hz⟩:=I.tuple hq
  obtain ⟨f0,f1,f2,f3,f4,f5⟩:=hf it (by simp)
  have hl:=rv.length
  exact wpAny_pyNext_tuple_end (I.ok.hd hc) st (show s.heap.IsTuple a its.toArray from p) (by simp; omega) fun h' eb => ⟨rfl,I.turned (t':=s.toks) (fun b o hb e => eb b o hb e) f0 f1 f3 f4 f5⟩
 self:=fun _ _ _ _ _ st h => wpAny_pyIter_tupleiter st h
theorem turn_range {P:Program} {w:World} {K:PySem.W.Frag} {tg:Expr} (it:Addr) (lo:Int) (n:Nat):Turn P w K tg (Itr lo n) [it] it (fun i h => IsRangeIter h it (lo + (i:Nat) * 1) ((n:Int) - (i:Nat)) 1) where
 mem:=by simp
 obj:=fun i h st b hb => by
  have e:b = it:=by simpa using hb
  subst e
  exact ⟨_,st,fun v z => by
   have z':Data.fields _ = Data.cell v:=z
   cases z'⟩
 keep:=fun i h h' st k => k it (by simp) _ st
 item:=by
  intro X hP hw hK hc i pins s σ H E I hf st hg
  subst hP hw hK
  obtain ⟨f0,f1,f2,f3,f4,f5⟩:=hf it (by simp)
  have W:=Walks.range (prog:=X.prog) (w:=X.w) (I.ok.hd hc) it lo 1 n
  refine W.item i s _ _ hg st fun v h' tk hv st' kk => ?_
  obtain ⟨t,rfl⟩:=hv
  have I1:Zn X pins σ H { s with heap:=h',toks:=tk }:=I.turned (fun b o hb e => kk b o (by simpa using hb) e) f0 f1 f3 f4 f5
  refine ⟨_,rfl,go_of (s:={ s with heap:=h',toks:=tk }) (n:="range_iterator") st' rfl rfl (by decide) ⟨.int (lo + i),H,I1,⟨t, ?_⟩,⟨rfl,rfl⟩,st',fun b hb => (hf b hb).1⟩⟩
  rw [Int.mul_one]
 done:=by
  intro X hP hw hK hc i pins s σ H E I hf st hg
  subst hP hw hK
  obtain ⟨f0,f1,f2,f3,f4,f5⟩:=hf it (by simp)
  exact wpAny_pyNext_range_end (I.ok.hd hc) st (by have:n ≤ i:=hg; omega) fun h' eb => ⟨rfl,I.turned (t':=s.toks) (fun b o hb e => eb b o hb e) f0 f1 f3 f4 f5⟩
 self:=fun _ _ _ _ _ st h => wpAny_pyIter_rangeiter st h
section
variable {X:Cx} {tg:Expr}
def iList (K:PySem.W.Frag) (tl:TE):TI:=fun σ H R => tl σ H fun x H1 => ∃ a,x = .ref a∧(∃ xs,Yg K H1 a xs)∧R (Itl K a) H1
def iTup (K:PySem.W.Frag) (tl:TE):TI:=fun σ H R => tl σ H fun x H1 => ∃ a,x = .ref a∧(∃ xs,Z9 K H1 a xs)∧R (Itt K a) H1
theorem pi_list {l:Expr} {tl:TE} (hl:PE X l tl):PI X tg l (iList X.K tl):=by
 intro pins s σ H R I h
 refine Vx (hl pins s σ H _ I h) fun v s1 ⟨x,H1,I1,r1,q1⟩ => ?_
 obtain ⟨a,e,⟨xs,hq⟩,q⟩:=q1
 subst e
 cases r1
 obtain ⟨its,rv,p,hz⟩:=I1.list hq
 refine wpAny_pyIter_list p.isList ?_
 refine ⟨s1.heap.objs.size,[s1.heap.objs.size],_,_,H1,rfl,I1.kept (t':=s1.toks) fun b o e => Heap.get?_push_of_some _ e,turn_list a _,⟨_,Heap.get?_push_size _ rfl,rfl,rfl⟩,fun b hb => ?_,q⟩
 have e:b = s1.heap.objs.size:=by simpa using hb
 subst e
 exact I1.fpOk (Nat.le_refl _) (I1.hok.fresh (Nat.le_refl _))
theorem pi_tup {l:Expr} {tl:TE} (hl:PE X l tl):PI X tg l (iTup X.K tl):=by
 intro pins s σ H R I h
 refine Vx (hl pins s σ H _ I h) fun v s1 ⟨x,H1,I1,r1,q1⟩ => ?_
 obtain ⟨a,e,⟨xs,hq⟩,q⟩:=q1
 subst e
 cases r1
 obtain ⟨its,rv,p,hz⟩:=I1.tuple hq
 refine wpAny_pyIter_tuple (show s1.heap.IsTuple a its.toArray from p) ?_
 refine ⟨s1.heap.objs.size,[s1.heap.objs.size],_,_,H1,rfl,I1.kept (t':=s1.toks) fun b o e => Heap.get?_push_of_some _ e,turn_tuple a _,⟨_,Heap.get?_push_size _ rfl,rfl,rfl⟩,fun b hb => ?_,q⟩
 have e:b = s1.heap.objs.size:=by simpa using hb
 subst e
 exact I1.fpOk (Nat.le_refl _) (I1.hok.fresh (Nat.le_refl _))
theorem range_it {pins:List (Addr × Obj)} {σ:St} {H:Hp} {s:Shared} {R:It→Hp→Prop} {E:Value→Shared→Prop} {lo hi:Int} {t u v:Tok} {tk:Nat} (I:Zn X pins σ H s) (h1:-(2 ^ 62) ≤ lo) (h2:lo < 2 ^ 62) (h3:-(2 ^ 62) ≤ hi) (h4:hi < 2 ^ 62)
  (q:R (Itr lo (hi - lo).toNat) H):wpAny (model X.prog X.w) X.A (pyIter (.ref s.heap.objs.size)) (PIE X pins σ tg R) E { s with heap:=s.heap.push { cls:=.type "range",data:=.fields #[.int lo t,.int hi u,.int 1 v] },toks:=tk }:=by
 refine wpAny_pyIter_range (IsRange.new ..) (small_one h1 h2 h3 h4) ?_
 have I1:Zn X pins σ H { s with heap:=s.heap.push { cls:=.type "range",data:=.fields #[.int lo t,.int hi u,.int 1 v] },toks:=tk }:=I.kept fun b o e => Heap.get?_push_of_some _ e
 refine ⟨(s.heap.push { cls:=.type "range",data:=.fields #[.int lo t,.int hi u,.int 1 v] }).objs.size,[(s.heap.push { cls:=.type "range",data:=.fields #[.int lo t,.int hi u,.int 1 v] }).objs.size],_,_,H,rfl,
  I1.kept (t':=tk) fun b o e => Heap.get?_push_of_some _ e,turn_range _ lo (hi - lo).toNat, ?_,fun b hb => ?_,q⟩
 ·have e1:lo + ((0:Nat):Int) * 1 = lo:=by simp
  have e2:(((hi - lo).toNat:Nat):Int) - ((0:Nat):Int) = Builtin.Range.rangeSize lo hi 1:=by rw [rangeSize_one]; split <;> omega
  show IsRangeIter _ _ (lo + ((0:Nat):Int) * 1) ((((hi - lo).toNat:Nat):Int) - ((0:Nat):Int)) 1
  rw [e1,e2]
  exact Heap.get?_push_size _ rfl
 ·have e:b = (s.heap.push { cls:=.type "range",data:=.fields #[.int lo t,.int hi u,.int 1 v] }).objs.size:=by simpa using hb
  subst e
  exact I1.fpOk (Nat.le_refl _) (I1.hok.fresh (Nat.le_refl _))
def iRng1 (ta:TA):TI:=fun σ H R => ta σ H fun vs H1 => ∃ j:Int,vs = [.int j]∧-(2 ^ 62) ≤ j∧j < 2 ^ 62∧R (Itr 0 j.toNat) H1
theorem Vr {a:Expr} {ta:TA} {p pos:Pos} (hg:Gl X "range") (hm:X.mg "range" = none) (ha:PA X [a] ta) (hs:starEach [a] X.env = [(false,eval a X.env)]:=by rfl):PI X tg (.Call (.Name "range" p) [a] [] pos) (iRng1 ta):=by
 intro pins s σ H R I h
 refine Call_ (ld_blt I hg hm boot_range (callWith_type1 (Vx (ha pos pins s σ H _ I h) fun us s1 ⟨vs,H1,I1,r1,q1⟩ => ?_) hs rfl))
 obtain ⟨j,e,q1,q2,q⟩:=q1
 subst e
 cases r1 with
 | cons r rr =>
  cases rr
  obtain ⟨t,rfl⟩:=r
  exact call_range_1 (range_it I1 (by omega) (by omega) q1 q2 (by simpa using q))
def tFor (wi:TI) (g:TG) (tb:TS):TS:=fun D σ H => wi σ H fun J H1 => ∃ W:Nat→Nat→St→Hp→Prop,(∃ m,W 0 m σ H1)∧∀ i m σ H,W i m σ H →
 (J.stop i H∧D.nx σ H) ∨ (J.go i H∧∃ N:St→Hp→Prop,(∀ σ' H',N σ' H'→∃ m',m' < m∧W (i + 1) m' σ' H')∧∀ x H',J.yld i H x H'→g x σ H' fun σ2 H2 => tb { D with nx:=N,ct:=N,bk:=D.nx } σ2 H2)
def pinsAt (fp:List Addr) (h:Heap):List (Addr × Obj):=fp.filterMap fun b => (h.get? b).map fun o => (b,o)
theorem mem_pinsAt {fp:List Addr} {h:Heap} {b:Addr} {o:Obj} (hb:b ∈ fp) (e:h.get? b = some o):(b,o) ∈ pinsAt fp h:=List.mem_filterMap.mpr ⟨b,hb,by rw [e]; rfl⟩
theorem of_pinsAt {fp:List Addr} {h:Heap} {p:Addr × Obj} (hp:p ∈ pinsAt fp h):p.1 ∈ fp∧h.get? p.1 = some p.2:=by
 obtain ⟨b,hb,e⟩:=List.mem_filterMap.mp hp
 cases q:h.get? b with
 | none => rw [q] at e; cases e
 | some o =>
  rw [q] at e
  have e':(b,o) = p:=Option.some.inj e
  subst e'
  exact ⟨hb,q⟩
theorem Zn.pinned {pins:List (Addr × Obj)} {σ:St} {H:Hp} {s:Shared} {fp:List Addr} (I:Zn X pins σ H s) (hf:∀ b ∈ fp,FpOk X pins H b) (ho:∀ b ∈ fp,∃ o,s.heap.get? b = some o∧∀ v,o.data ≠ .cell v):Zn X (pins ++ pinsAt fp s.heap) σ H s :=
 I.pins_of fun p hp => (List.mem_append.mp hp).elim (fun z => I.pin p (List.mem_append_right _ z)) fun z => by
  obtain ⟨hb,e⟩:=of_pinsAt z
  obtain ⟨f0,f1,f2,_⟩:=hf p.1 hb
  obtain ⟨o,e',d⟩:=ho p.1 hb
  rw [e] at e'; cases e'
  exact ⟨e,f0,f1,f2,d⟩
theorem Zn.unpinned {pins pl:List (Addr × Obj)} {σ:St} {H:Hp} {s:Shared} (I:Zn X (pins ++ pl) σ H s):Zn X pins σ H s:=I.pins_of fun p hp => I.pin p (List.mem_append_right _ (List.mem_append_left _ hp))
theorem ps_for {iter:Expr} {body:List Stmt} {wi:TI} {g:TG} {tb:TS} {pos:Pos} (hp:PassesOwn (model X.prog X.w) X.A X.env X.xe) (hc:X.calm = true) (hi:PI X tg iter wi) (hg:PG X tg g) (hb:PSs X body tb)
  (hs:∀ x,foldedSetIterable iter X.env x = pure x:=by intro _; rfl):PS X (.For tg iter body [] pos) (tFor wi g tb):=by
 intro pins s σ H D I h
 refine wpAny_For (Vx (hi pins s σ H _ I h) fun v s1 h1 => Vx h1 fun itv s2 h2 => ?_) hs
 obtain ⟨it,fp,tn,J,H2,e,I2,T,st2,f2,W,⟨m0,w0⟩,turn⟩:=h2
 subst e
 have stat:∀ {H':Hp},(∀ b ∈ fp,H' b = none)→∀ b ∈ fp,FpOk X pins H' b:=fun hn b hb => ⟨hn b hb,(f2 b hb).2⟩
 refine codeAny_forLoop_any (fun n s' => ∃ i σ' H',Zn X pins σ' H' s'∧tn i s'.heap∧(∀ b ∈ fp,H' b = none)∧W i n σ' H') ?_ m0 ⟨0,σ,H2,I2,st2,fun b hb => (f2 b hb).1,w0⟩
 rintro n s3 ⟨i,σ3,H3,I3,st3,fr3,w3⟩
 rcases turn i n σ3 H3 w3 with ⟨stop,qn⟩ | ⟨go,N,hN,step⟩
 ·refine wpAny_passesOwn hp (Vx (T.done X rfl rfl rfl hc i pins s3 σ3 H3 X.xe I3 (stat fr3) st3 stop) fun r s4 ⟨hr,I4⟩ => ?_)
  subst hr
  exact wpAny_execs_nil ⟨σ3,H3,I4,qn⟩
 ·refine wpAny_passesOwn hp (Vx (T.item X rfl rfl rfl hc i pins s3 σ3 H3 X.xe I3 (stat fr3) st3 go) fun r s4 ⟨u,hr,h4⟩ => ?_)
  subst hr
  refine wpAny_passesOwn hp (Vx h4 fun _ s5 ⟨x,H5,I5,r5,y5,st5,fr5⟩ => ?_)
  have I5':=I5.pinned (stat fr5) (T.obj _ _ st5)
  refine wpAny_passesOwn hp (Vx (hg _ s5 σ3 H5 x u _ I5' r5 (step x H5 y5)) fun _ s6 ⟨σ6,H6,I6,q6⟩ => ?_)
  refine wpAny_passesOwn hp (Vx (hb _ s6 σ6 H6 _ I6 q6) fun f s7 q7 => ?_)
  have again:∀ {σ7:St} {H7:Hp},Zn X (pins ++ pinsAt fp s5.heap) σ7 H7 s7→N σ7 H7→∃ m,m < n∧∃ i σ' H',Zn X pins σ' H' s7∧tn i s7.heap∧(∀ b ∈ fp,H' b = none)∧W i m σ' H':=fun {σ7 H7} I7 n7 => by
   obtain ⟨m',hm,w7⟩:=hN σ7 H7 n7
   refine ⟨m',hm,i + 1,σ7,H7,I7.unpinned,T.keep _ _ _ st5 fun b hb o e => (I7.pin (b,o) (List.mem_append_right _ (List.mem_append_right _ (mem_pinsAt hb e)))).1,fun b hb => ?_,w7⟩
   obtain ⟨o,e,d⟩:=T.obj _ _ st5 b hb
   exact (I7.pin (b,o) (List.mem_append_right _ (List.mem_append_right _ (mem_pinsAt hb e)))).2.1
  cases f with
  | next => obtain ⟨σ7,H7,I7,n7⟩:=q7; exact again I7 n7
  | cont => obtain ⟨σ7,H7,I7,n7⟩:=q7; exact again I7 n7
  | brk => obtain ⟨σ7,H7,I7,q7⟩:=q7; exact ⟨σ7,H7,I7.unpinned,q7⟩
  | ret v => obtain ⟨x7,σ7,H7,I7,r7,q7⟩:=q7; exact ⟨x7,σ7,H7,I7.unpinned,r7,q7⟩
end
theorem for_list {K:PySem.W.Frag} {a:Addr} {xs:List V} {g:TG} {tb:TS} {D:Ends} {σ:St} {H:Hp} (Pv:Nat→St→Hp→Prop) (h0:Pv 0 σ H) (hl:∀ i σ H,i ≤ xs.length→Pv i σ H→Yg K H a xs)
  (hs:∀ i x σ H,xs[i]? = some x→Pv i σ H→g x σ H fun σ2 H2 => tb { D with nx:=Pv (i + 1),ct:=Pv (i + 1),bk:=D.nx } σ2 H2) (hd:∀ σ H,Pv xs.length σ H→D.nx σ H) :
  ∃ W:Nat→Nat→St→Hp→Prop,(∃ m,W 0 m σ H)∧∀ i m σ H,W i m σ H →
   ((Itl K a).stop i H∧D.nx σ H) ∨ ((Itl K a).go i H∧∃ N:St→Hp→Prop,(∀ σ' H',N σ' H'→∃ m',m' < m∧W (i + 1) m' σ' H')∧∀ x H',(Itl K a).yld i H x H'→g x σ H' fun σ2 H2 => tb { D with nx:=N,ct:=N,bk:=D.nx } σ2 H2):=by
 refine ⟨fun i m σ H => m = xs.length - i∧i ≤ xs.length∧Pv i σ H,⟨xs.length,by simp,Nat.zero_le _,h0⟩, ?_⟩
 rintro i m σ H ⟨rfl,hi,p⟩
 have q:=hl i σ H hi p
 by_cases hlt:i < xs.length
 ·refine .inr ⟨⟨xs,xs[i],q,by simp [hlt]⟩,Pv (i + 1),fun σ' H' p' => ⟨xs.length - (i + 1),by omega,rfl,hlt,p'⟩,fun x H' y => ?_⟩
  obtain ⟨e,y⟩:=y
  subst e
  exact hs i x σ _ (y xs q) p
 ·have e:i = xs.length:=by omega
  subst e
  exact .inl ⟨⟨xs,q,Nat.le_refl _⟩,hd σ H p⟩
theorem for_tup {K:PySem.W.Frag} {a:Addr} {xs:List V} {g:TG} {tb:TS} {D:Ends} {σ:St} {H:Hp} (Pv:Nat→St→Hp→Prop) (h0:Pv 0 σ H) (hl:∀ i σ H,i ≤ xs.length→Pv i σ H→Z9 K H a xs)
  (hs:∀ i x σ H,xs[i]? = some x→Pv i σ H→g x σ H fun σ2 H2 => tb { D with nx:=Pv (i + 1),ct:=Pv (i + 1),bk:=D.nx } σ2 H2) (hd:∀ σ H,Pv xs.length σ H→D.nx σ H) :
  ∃ W:Nat→Nat→St→Hp→Prop,(∃ m,W 0 m σ H)∧∀ i m σ H,W i m σ H →
   ((Itt K a).stop i H∧D.nx σ H) ∨ ((Itt K a).go i H∧∃ N:St→Hp→Prop,(∀ σ' H',N σ' H'→∃ m',m' < m∧W (i + 1) m' σ' H')∧∀ x H',(Itt K a).yld i H x H'→g x σ H' fun σ2 H2 => tb { D with nx:=N,ct:=N,bk:=D.nx } σ2 H2):=by
 refine ⟨fun i m σ H => m = xs.length - i∧i ≤ xs.length∧Pv i σ H,⟨xs.length,by simp,Nat.zero_le _,h0⟩, ?_⟩
 rintro i m σ H ⟨rfl,hi,p⟩
 have q:=hl i σ H hi p
 by_cases hlt:i < xs.length
 ·refine .inr ⟨⟨xs,xs[i],q,by simp [hlt]⟩,Pv (i + 1),fun σ' H' p' => ⟨xs.length - (i + 1),by omega,rfl,hlt,p'⟩,fun x H' y => ?_⟩
  obtain ⟨e,y⟩:=y
  subst e
  exact hs i x σ _ (y xs q) p
 ·have e:i = xs.length:=by omega
  subst e
  exact .inl ⟨⟨xs,q,Nat.le_refl _⟩,hd σ H p⟩
theorem for_range {lo:Int} {n:Nat} {g:TG} {tb:TS} {D:Ends} {σ:St} {H:Hp} (Pv:Nat→St→Hp→Prop) (h0:Pv 0 σ H)
  (hs:∀ i σ H,i < n→Pv i σ H→g (.int (lo + i)) σ H fun σ2 H2 => tb { D with nx:=Pv (i + 1),ct:=Pv (i + 1),bk:=D.nx } σ2 H2) (hd:∀ σ H,Pv n σ H→D.nx σ H) :
  ∃ W:Nat→Nat→St→Hp→Prop,(∃ m,W 0 m σ H)∧∀ i m σ H,W i m σ H →
   ((Itr lo n).stop i H∧D.nx σ H) ∨ ((Itr lo n).go i H∧∃ N:St→Hp→Prop,(∀ σ' H',N σ' H'→∃ m',m' < m∧W (i + 1) m' σ' H')∧∀ x H',(Itr lo n).yld i H x H'→g x σ H' fun σ2 H2 => tb { D with nx:=N,ct:=N,bk:=D.nx } σ2 H2):=by
 refine ⟨fun i m σ H => m = n - i∧i ≤ n∧Pv i σ H,⟨n,by simp,Nat.zero_le _,h0⟩, ?_⟩
 rintro i m σ H ⟨rfl,hi,p⟩
 by_cases hlt:i < n
 ·refine .inr ⟨hlt,Pv (i + 1),fun σ' H' p' => ⟨n - (i + 1),by omega,rfl,hlt,p'⟩,fun x H' y => ?_⟩
  obtain ⟨e,y⟩:=y
  subst e y
  exact hs i σ _ hlt p
 ·have e:i = n:=by omega
  subst e
  exact .inl ⟨Nat.le_refl _,hd σ H p⟩
theorem while_by {c:TT} {tb:TS} {D:Ends} {σ:St} {H:Hp} (Pv:St→Hp→Prop) (μ:St→Hp→Nat) (h0:Pv σ H)
  (hs:∀ σ H,Pv σ H→c σ H fun b H1 => if b = true then tb { D with nx:=fun σ' H' => Pv σ' H'∧μ σ' H' < μ σ H,ct:=fun σ' H' => Pv σ' H'∧μ σ' H' < μ σ H,bk:=D.nx } σ H1 else D.nx σ H1)
  (mono:∀ σ H Q Q',(∀ b H1,Q b H1→Q' b H1)→c σ H Q→c σ H Q'):tWhile c tb D σ H:=by
 refine ⟨fun m σ H => m = μ σ H∧Pv σ H,⟨_,rfl,h0⟩, ?_⟩
 rintro m σ H ⟨rfl,p⟩
 refine mono σ H _ _ (fun b H1 q => ?_) (hs σ H p)
 cases b with
 | true => exact ⟨_,fun σ' H' ⟨p',l⟩ => ⟨_,l,rfl,p'⟩,q⟩
 | false => exact q
abbrev R2:=V→V→Hp→VK→Prop
def OpR (X:Cx) (f:Value→Value→Sem Value) (r:R2):Prop :=
 ∀ (pins:List (Addr × Obj)) (s:Shared) (σ:St) (H:Hp) (x y:V) (v u:Value) (Q:VK),Zn X pins σ H s→Z6 x v→Z6 y u→r x y H Q →
  wpAny (model X.prog X.w) X.A (f v u) (EP X pins σ Q) X.xe s
def UnR (X:Cx) (f:Value→Sem Value) (r:V→Hp→VK→Prop):Prop :=
 ∀ (pins:List (Addr × Obj)) (s:Shared) (σ:St) (H:Hp) (x:V) (v:Value) (Q:VK),Zn X pins σ H s→Z6 x v→r x H Q →
  wpAny (model X.prog X.w) X.A (f v) (EP X pins σ Q) X.xe s
def Vi (X:Cx) (f:Value) (r:List V→Hp→VK→Prop):Prop :=
 ∀ (pins:List (Addr × Obj)) (s:Shared) (σ:St) (H:Hp) (xs:List V) (us:List Value) (Q:VK),Zn X pins σ H s→Z1 xs us→r xs H Q →
  wpAny (model X.prog X.w) X.A (call f us) (EP X pins σ Q) X.xe s
def tOp (r:R2) (ta tb:TE):TE:=fun σ H Q => ta σ H fun x H1 => tb σ H1 fun y H2 => r x y H2 Q
def tUn (r:V→Hp→VK→Prop) (ta:TE):TE:=fun σ H Q => ta σ H fun x H1 => r x H1 Q
def rI (C:Int→Int→Prop) (g:Int→Int→V):R2:=fun x y H Q => ∃ i j,x = .int i∧y = .int j∧C i j∧Q (g i j) H
def rI0 (g:Int→Int→V):R2:=fun x y H Q => ∃ i j,x = .int i∧y = .int j∧Q (g i j) H
def rU (g:Int→V):V→Hp→VK→Prop:=fun x H Q => ∃ i,x = .int i∧Q (g i) H
section
variable {X:Cx} {a b c:Expr} {ta tb tc:TE} {pos:Pos}
theorem binT (ha:PE X a ta) (hb:PE X b tb) {pins:List (Addr × Obj)} {s:Shared} {σ:St} {H:Hp} {R:V→V→Hp→Prop} (I:Zn X pins σ H s)
  (h:ta σ H fun x H1 => tb σ H1 fun y H2 => R x y H2) {Q:Value→Shared→Prop} {f:Value→Value→Sem Value}
  (hf:∀ v u s2 x y H2,Zn X pins σ H2 s2→Z6 x v→Z6 y u→R x y H2→wpAny (model X.prog X.w) X.A (f v u) Q X.xe s2) :
  wpAny (model X.prog X.w) X.A (eval a X.env) (fun v s₁ => wpAny (model X.prog X.w) X.A (eval b X.env) (fun u s₂ => wpAny (model X.prog X.w) X.A (f v u) Q X.xe s₂) X.xe s₁) X.xe s:=by
 refine Vx (ha pins s σ H _ I h) fun v s1 ⟨x,H1,I1,r1,q1⟩ => ?_
 refine Vx (hb pins s1 σ H1 _ I1 q1) fun u s2 ⟨y,H2,I2,r2,q2⟩ => ?_
 exact hf v u s2 x y H2 I2 r1 r2 q2
theorem Zb {op:Operator} {r:R2} (ho:OpR X (binaryOp op) r) (ha:PE X a ta) (hb:PE X b tb):PE X (.BinOp a op b pos) (tOp r ta tb):=by
 intro pins s σ H Q I h
 exact wpAny_BinOp (binT ha hb I h fun v u s2 x y H2 I2 rx ry q => ho pins s2 σ H2 x y v u Q I2 rx ry q)
theorem pe_un {op:UnaryOp} {r:V→Hp→VK→Prop} (ho:UnR X (unaryOp op) r) (ha:PE X a ta):PE X (.UnaryOp op a pos) (tUn r ta):=by
 intro pins s σ H Q I h
 exact UnaryOp_ (Vx (ha pins s σ H _ I h) fun v s1 ⟨x,H1,I1,r1,q1⟩ => ho pins s1 σ H1 x v Q I1 r1 q1)
theorem opI {f:Value→Value→Sem Value} {C:Int→Int→Prop} {g:Int→Int→Int}
  (rule:∀ (i j:Int) (t u:Tok) (s:Shared) (Q:Value→Shared→Prop) (E:Value→Shared→Prop),C i j→Q (.int (g i j) s.toks) { s with toks:=s.toks + 1 }→wpAny (model X.prog X.w) X.A (f (.int i t) (.int j u)) Q E s) :
  OpR X f (rI C fun i j => .int (g i j)):=by
 intro pins s σ H x y v u Q I rx ry h
 obtain ⟨i,j,rfl,rfl,hc,q⟩:=h
 obtain ⟨t,rfl⟩:=rx
 obtain ⟨t',rfl⟩:=ry
 exact rule i j t t' s _ _ hc ⟨.int (g i j),H,I.tok _,⟨_,rfl⟩,q⟩
theorem opI0 {f:Value→Value→Sem Value} {g:Int→Int→Int}
  (rule:∀ (i j:Int) (t u:Tok) (s:Shared) (Q:Value→Shared→Prop) (E:Value→Shared→Prop),Q (.int (g i j) s.toks) { s with toks:=s.toks + 1 }→wpAny (model X.prog X.w) X.A (f (.int i t) (.int j u)) Q E s) :
  OpR X f (rI0 fun i j => .int (g i j)):=by
 intro pins s σ H x y v u Q I rx ry h
 obtain ⟨i,j,rfl,rfl,q⟩:=h
 obtain ⟨t,rfl⟩:=rx
 obtain ⟨t',rfl⟩:=ry
 exact rule i j t t' s _ _ ⟨.int (g i j),H,I.tok _,⟨_,rfl⟩,q⟩
theorem opB0 {f:Value→Value→Sem Value} {g:Int→Int→Bool}
  (rule:∀ (i j:Int) (t u:Tok) (s:Shared) (Q:Value→Shared→Prop) (E:Value→Shared→Prop),Q (.bool (g i j)) s→wpAny (model X.prog X.w) X.A (f (.int i t) (.int j u)) Q E s) :
  OpR X f (rI0 fun i j => .bl (g i j)):=by
 intro pins s σ H x y v u Q I rx ry h
 obtain ⟨i,j,rfl,rfl,q⟩:=h
 obtain ⟨t,rfl⟩:=rx
 obtain ⟨t',rfl⟩:=ry
 exact rule i j t t' s _ _ ⟨.bl (g i j),H,I,rfl,q⟩
def CDiv (i j:Int):Prop:=0 < j∧j < 1073741824
def CPow (i j:Int):Prop:=0 ≤ j∧j ≤ 1000000∧i.natAbs < 2 ^ 64
def CMul (i j:Int):Prop:=(-(2 ^ 64) < i∧i < 2 ^ 64) ∨ (-(2 ^ 64) < j∧j < 2 ^ 64)
theorem CMul.ok {i j:Int} (h:CMul i j):IntMulOk i j:=by
 rcases h with ⟨h1,h2⟩ | ⟨h1,h2⟩
 ·exact .of_left (intBits_le_64 h1 h2)
 ·exact .of_right (intBits_le_64 h1 h2)
theorem Z4:OpR X (binaryOp .Add) (rI0 fun i j => .int (i + j)):=opI0 fun _ _ _ _ _ _ _ q => add_int q
theorem op_sub:OpR X (binaryOp .Sub) (rI0 fun i j => .int (i - j)):=opI0 fun _ _ _ _ _ _ _ q => sub_int q
theorem op_mul:OpR X (binaryOp .Mult) (rI CMul fun i j => .int (i * j)):=opI fun _ _ _ _ _ _ _ hc q => mul_int q hc.ok
theorem op_fdiv:OpR X (binaryOp .FloorDiv) (rI CDiv fun i j => .int (i / j)):=opI fun i j _ _ _ _ _ hc q => by
 have h1:(0:Int) < j:=hc.1
 have h2:j < 1073741824:=hc.2
 exact floordiv_int (by omega) (by rw [Int.fdiv_eq_ediv_of_nonneg i (by omega)]; exact q) (.inl (PyProof.noPylong_small (by omega)))
theorem op_mod:OpR X (binaryOp .Mod) (rI (fun _ j => 0 < j) fun i j => .int (i % j)):=opI fun i j _ _ _ _ _ hc q => by
 have h1:(0:Int) < j:=hc
 exact mod_int' (by omega) (by rw [Int.fmod_eq_emod_of_nonneg i (by omega)]; exact q)
theorem op_pow:OpR X (binaryOp .Pow) (rI CPow fun i j => .int (i ^ j.toNat)):=opI fun _ _ _ _ _ _ _ hc q => pow_int_small hc.1 hc.2.1 hc.2.2 q
theorem unI {f:Value→Sem Value} {g:Int→Int}
  (rule:∀ (i:Int) (t:Tok) (s:Shared) (Q:Value→Shared→Prop) (E:Value→Shared→Prop),Q (.int (g i) s.toks) { s with toks:=s.toks + 1 }→wpAny (model X.prog X.w) X.A (f (.int i t)) Q E s) :
  UnR X f (rU fun i => .int (g i)):=by
 intro pins s σ H x v Q I rx h
 obtain ⟨i,rfl,q⟩:=h
 obtain ⟨t,rfl⟩:=rx
 exact rule i t s _ _ ⟨.int (g i),H,I.tok _,⟨_,rfl⟩,q⟩
theorem un_neg:UnR X (unaryOp .USub) (rU fun i => .int (-i)):=unI fun _ _ _ _ _ q => neg_int q
end
def scal:V→V→Bool
 | .non,.non => true | .non,.int _ => true | .int _,.non => true | .non,.bl _ => true | .bl _,.non => true | .non,.str _ => true | .str _,.non => true
 | .int _,.int _ => true | .bl _,.bl _ => true | .str _,.str _ => true | .byt _,.byt _ => true
 | .int _,.str _ => true | .str _,.int _ => true | .bl _,.str _ => true | .str _,.bl _ => true
 | _,_ => false
def rEq:R2:=fun x y H Q => scal x y = true∧Q (.bl (decide (x = y))) H
def rNe:R2:=fun x y H Q => scal x y = true∧Q (.bl (!decide (x = y))) H
theorem dec_int {i j:Int}:decide (V.int i = V.int j) = (i == j):=by
 rw [Bool.eq_iff_iff]
 simp
theorem dec_bl {i j:Bool}:decide (V.bl i = V.bl j) = (i == j):=by
 rw [Bool.eq_iff_iff]
 simp
theorem dec_str {i j:Str}:decide (V.str i = V.str j) = (i == j):=by
 rw [Bool.eq_iff_iff]
 simp
theorem dec_byt {i j:Array UInt8}:decide (V.byt i = V.byt j) = (i.toList == j.toList):=by
 rw [Bool.eq_iff_iff]
 cases i
 cases j
 simp
section
variable {X:Cx} {a b c:Expr} {ta tb tc:TE} {pos:Pos}
theorem Yx {pins:List (Addr × Obj)} {σ:St} {H:Hp} {s:Shared} {Q:VK} {k k':Bool} (I:Zn X pins σ H s) (q:Q (.bl k) H) (e:k = k'):EP X pins σ Q (.bool k') s:=by
 subst e
 exact ⟨.bl k,H,I,rfl,q⟩
theorem Y3:OpR X (compareOp .Eq) rEq:=by
 intro pins s σ H x y v u Q I rx ry h
 obtain ⟨hs,q⟩:=h
 cases x with
 | non =>
  cases rx
  cases y with
  | non => cases ry; exact PySem.EqNone.eq_none_none (Yx I q (by simp))
  | bl j => cases ry; exact PySem.EqNone.eq_none_bool (Yx I q (by simp))
  | int j => obtain ⟨t',rfl⟩:=ry; exact PySem.EqNone.eq_none_int (Yx I q (by simp))
  | str j => obtain ⟨t',rfl⟩:=ry; exact PySem.EqNone.eq_none_str (Yx I q (by simp))
  | _ => exact absurd (show false = true from hs) Bool.false_ne_true
 | bl i =>
  cases rx
  cases y with
  | non => cases ry; exact PySem.EqNone.eq_bool_none (Yx I q (by simp))
  | bl j => cases ry; exact eq_bool (Yx I q dec_bl)
  | str j => obtain ⟨t',rfl⟩:=ry; exact PySem.EqMixed.eq_bool_str (Yx I q (by simp))
  | _ => exact absurd (show false = true from hs) Bool.false_ne_true
 | int i =>
  obtain ⟨t,rfl⟩:=rx
  cases y with
  | non => cases ry; exact PySem.EqNone.eq_int_none (Yx I q (by simp))
  | int j => obtain ⟨t',rfl⟩:=ry; exact eq_int (Yx I q dec_int)
  | str j => obtain ⟨t',rfl⟩:=ry; exact PySem.EqMixed.eq_int_str (Yx I q (by simp))
  | _ => exact absurd (show false = true from hs) Bool.false_ne_true
 | str i =>
  obtain ⟨t,rfl⟩:=rx
  cases y with
  | non => cases ry; exact PySem.EqNone.eq_str_none (Yx I q (by simp))
  | bl j => cases ry; exact PySem.EqMixed.eq_str_bool (Yx I q (by simp))
  | int j => obtain ⟨t',rfl⟩:=ry; exact PySem.EqMixed.eq_str_int (Yx I q (by simp))
  | str j => obtain ⟨t',rfl⟩:=ry; exact eq_str (Yx I q dec_str)
  | _ => exact absurd (show false = true from hs) Bool.false_ne_true
 | byt i =>
  obtain ⟨t,rfl⟩:=rx
  cases y with
  | byt j => obtain ⟨t',rfl⟩:=ry; exact PySem.W.eq_bytes (Yx I q dec_byt)
  | _ => exact absurd (show false = true from hs) Bool.false_ne_true
 | _ => cases y <;> exact absurd (show false = true from hs) Bool.false_ne_true
theorem op_ne:OpR X (compareOp .NotEq) rNe:=by
 intro pins s σ H x y v u Q I rx ry h
 obtain ⟨hs,q⟩:=h
 cases x with
 | non =>
  cases rx
  cases y with
  | non => cases ry; exact PySem.EqNone.ne_none_none (Yx I q (by simp))
  | bl j => cases ry; exact PySem.EqNone.ne_none_bool (Yx I q (by simp))
  | int j => obtain ⟨t',rfl⟩:=ry; exact PySem.EqNone.ne_none_int (Yx I q (by simp))
  | str j => obtain ⟨t',rfl⟩:=ry; exact PySem.EqNone.ne_none_str (Yx I q (by simp))
  | _ => exact absurd (show false = true from hs) Bool.false_ne_true
 | bl i =>
  cases rx
  cases y with
  | non => cases ry; exact PySem.EqNone.ne_bool_none (Yx I q (by simp))
  | bl j => cases ry; exact ne_bool (Yx I q (congrArg not dec_bl))
  | str j => obtain ⟨t',rfl⟩:=ry; exact PySem.EqMixed.ne_bool_str (Yx I q (by simp))
  | _ => exact absurd (show false = true from hs) Bool.false_ne_true
 | int i =>
  obtain ⟨t,rfl⟩:=rx
  cases y with
  | non => cases ry; exact PySem.EqNone.ne_int_none (Yx I q (by simp))
  | int j => obtain ⟨t',rfl⟩:=ry; exact ne_int (Yx I q (congrArg not dec_int))
  | str j => obtain ⟨t',rfl⟩:=ry; exact PySem.EqMixed.ne_int_str (Yx I q (by simp))
  | _ => exact absurd (show false = true from hs) Bool.false_ne_true
 | str i =>
  obtain ⟨t,rfl⟩:=rx
  cases y with
  | non => cases ry; exact PySem.EqNone.ne_str_none (Yx I q (by simp))
  | bl j => cases ry; exact PySem.EqMixed.ne_str_bool (Yx I q (by simp))
  | int j => obtain ⟨t',rfl⟩:=ry; exact PySem.EqMixed.ne_str_int (Yx I q (by simp))
  | str j => obtain ⟨t',rfl⟩:=ry; exact ne_str (Yx I q (congrArg not dec_str))
  | _ => exact absurd (show false = true from hs) Bool.false_ne_true
 | byt i =>
  obtain ⟨t,rfl⟩:=rx
  cases y with
  | byt j => obtain ⟨t',rfl⟩:=ry; exact PySem.W.ne_bytes (Yx I q (congrArg not dec_byt))
  | _ => exact absurd (show false = true from hs) Bool.false_ne_true
 | _ => cases y <;> exact absurd (show false = true from hs) Bool.false_ne_true
theorem op_lt:OpR X (compareOp .Lt) (rI0 fun i j => .bl (decide (i < j))):=opB0 fun _ _ _ _ _ _ _ q => lt_int q
theorem op_gt:OpR X (compareOp .Gt) (rI0 fun i j => .bl (decide (j < i))):=opB0 fun _ _ _ _ _ _ _ q => gt_int q
theorem op_ge:OpR X (compareOp .GtE) (rI0 fun i j => .bl (decide (j ≤ i))):=opB0 fun _ _ _ _ _ _ _ q => ge_int q
theorem op_isN:OpR X (compareOp .Is) (fun x y H Q => y = .non∧Q (.bl (decide (x = .non))) H):=by
 intro pins s σ H x y v u Q I rx ry h
 obtain ⟨rfl,q⟩:=h
 cases ry
 refine is_none_gen (Yx I q ?_)
 cases x <;> first
  | (cases rx; rfl)
  | (obtain ⟨t,rfl⟩:=rx; rfl)
theorem Z0 (b:Expr) {op:CmpOp} (h:op ≠ .In:=by decide) (h2:op ≠ .NotIn:=by decide):behindInMarks op b = false:=by
 have e1:(op == CmpOp.In) = false:=by cases op <;> first | rfl | exact absurd rfl h
 have e2:(op == CmpOp.NotIn) = false:=by cases op <;> first | rfl | exact absurd rfl h2
 cases b <;> simp [behindInMarks,e1,e2]
theorem pe_cmpR {op:CmpOp} {r:R2} (ho:OpR X (compareOp op) r) (ha:PE X a ta) (hb:PE X b tb) (hm:behindInMarks op b = false):PE X (.Compare a [op] [b] pos) (tOp r ta tb):=by
 intro pins s σ H Q I h
 exact wpAny_Compare1 (binT ha hb I h fun v u s2 x y H2 I2 rx ry q => ho pins s2 σ H2 x y v u Q I2 rx ry q) hm
def tTest (t:TE):TT:=fun σ H Q => t σ H fun x H' => ∃ k,x = .bl k∧Q k H'
theorem Zs {op:CmpOp} {r:R2} (ho:OpR X (compareOp op) r) (ha:PE X a ta) (hb:PE X b tb) (hm:behindInMarks op b = false):PT X (.Compare a [op] [b] pos) (tTest (tOp r ta tb)):=by
 intro pins s σ H Q I h
 refine wpAny_isTrue_Compare1 (Vx (ha pins s σ H _ I h) fun v s1 ⟨x,H1,I1,r1,q1⟩ => Vx (hb pins s1 σ H1 _ I1 q1) fun u s2 ⟨y,H2,I2,r2,q2⟩ =>
  Vx (ho pins s2 σ H2 x y v u _ I2 r1 r2 q2) fun c s3 ⟨z,H3,I3,r3,k,e,q3⟩ => ?_) hm
 subst e
 cases r3
 exact wpAny_truthy_bool ⟨H3,I3,q3⟩
theorem line63:(sizeLine:Nat) < 2 ^ 63:=by rw [sizeLine_eq]; decide
theorem op_add_str:OpR X (binaryOp .Add) (fun x y H Q => ∃ i j,x = .str i∧y = .str j∧i.length + j.length ≤ sizeLine∧Q (.str (i ++ j)) H):=by
 intro pins s σ H x y v u Q I rx ry h
 obtain ⟨i,j,rfl,rfl,hz,q⟩:=h
 obtain ⟨t,rfl⟩:=rx
 obtain ⟨t',rfl⟩:=ry
 exact add_str (fun t' tk => ⟨.str (i ++ j),H,I.tok _,⟨_,rfl⟩,q⟩) hz
theorem vals1 {x:V} {us:List Value} (r:Z1 [x] us):∃ u,us = [u]∧Z6 x u:=by
 cases r with
 | cons r1 r2 => cases r2; exact ⟨_,rfl,r1⟩
theorem vals2 {x y:V} {us:List Value} (r:Z1 [x,y] us):∃ u w',us = [u,w']∧Z6 x u∧Z6 y w':=by
 cases r with
 | cons r1 r2 =>
  cases r2 with
  | cons r3 r4 => cases r4; exact ⟨_,_,rfl,r1,r3⟩
theorem call_max2 (hc:X.calm = true):Vi X (.builtin "max") (fun xs H Q => ∃ i j,xs = [.int i,.int j]∧Q (.int (if j > i then j else i)) H):=by
 intro pins s σ H xs us Q I r h
 obtain ⟨i,j,rfl,q⟩:=h
 obtain ⟨u,w',rfl,⟨t,rfl⟩,⟨t',rfl⟩⟩:=vals2 r
 refine max_two_ints (I.ok.hd hc) fun h' tk k => ⟨_,H,I.kept k, ?_,q⟩
 by_cases hj:j > i
 ·rw [if_pos hj,if_pos hj]; exact ⟨_,rfl⟩
 ·rw [if_neg hj,if_neg hj]; exact ⟨_,rfl⟩
theorem call_min2 (hc:X.calm = true):Vi X (.builtin "min") (fun xs H Q => ∃ i j,xs = [.int i,.int j]∧Q (.int (if j < i then j else i)) H):=by
 intro pins s σ H xs us Q I r h
 obtain ⟨i,j,rfl,q⟩:=h
 obtain ⟨u,w',rfl,⟨t,rfl⟩,⟨t',rfl⟩⟩:=vals2 r
 refine min_two_ints (I.ok.hd hc) fun h' tk k => ⟨_,H,I.kept k, ?_,q⟩
 by_cases hj:j < i
 ·rw [if_pos hj,if_pos hj]; exact ⟨_,rfl⟩
 ·rw [if_neg hj,if_neg hj]; exact ⟨_,rfl⟩
theorem call_int1:Vi X (.type "int") (fun xs H Q => (∃ i,xs = [.int i]∧Q (.int i) H) ∨ ∃ k,xs = [.bl k]∧Q (.int (if k then 1 else 0)) H):=by
 intro pins s σ H xs us Q I r h
 rcases h with ⟨i,rfl,q⟩ | ⟨k,rfl,q⟩
 ·obtain ⟨u,rfl,t,rfl⟩:=vals1 r
  exact call_int_int ⟨.int i,H,I,⟨_,rfl⟩,q⟩
 ·obtain ⟨u,rfl,r1⟩:=vals1 r
  cases r1
  exact call_int_bool ⟨.int (if k then 1 else 0),H,I.tok _,⟨_,rfl⟩,q⟩
theorem call_ord:Vi X (.builtin "ord") (fun xs H Q => ∃ x,xs = [.str x]∧x.length = 1∧Q (.int (x.cps.getD 0 0:Nat)) H):=by
 intro pins s σ H xs us Q I r h
 obtain ⟨x,rfl,hz,q⟩:=h
 obtain ⟨u,rfl,t,rfl⟩:=vals1 r
 exact ord_of_one hz ⟨.int _,H,I.tok _,⟨_,rfl⟩,q⟩
end
structure ObjM (h:Heap) (x dx C:Addr) (mA:Str→Option Value):Prop where
 obj:h.get? x = some (PySem.W.instObj C dx)
 ns:h.Ns1 dx mA
 ne:dx ≠ x
theorem lookIn_ns {h:Heap} {dx:Addr} {mA:Str→Option Value} (n:h.Ns1 dx mA):∃ od,h.get? dx = some od∧∀ name,PySem.W.lookIn name od = some (mA name):=by
 obtain ⟨o,es,ep,ho,hd,hk,_,hm⟩:=n
 refine ⟨o,ho,fun name => ?_⟩
 have e:=hm name
 unfold nsFind findBy at e
 rw [← Array.find?_toList] at e
 unfold PySem.W.lookIn
 rw [hd]
 dsimp only
 split
 ·rename_i y q
  rw [q] at e
  exact congrArg some e
 ·rename_i q
  rw [q] at e
  have a:es.toList.any (·.refKey) = false:=by
   rw [List.any_eq_false]
   intro y hy
   obtain ⟨z,t,hkey⟩:=hk y (Array.mem_toList_iff.mp hy)
   simp [DictEntry.refKey,hkey]
  have a':¬ es.toList.any (·.refKey) = true:=by rw [a]; exact Bool.false_ne_true
  rw [if_neg a']
  exact congrArg some e
theorem ObjM.look {h:Heap} {x dx C:Addr} {mA:Str→Option Value} (I:ObjM h x dx C mA):∃ od,PySem.W.InstAt h x (PySem.W.instObj C dx) C (some od)∧∀ name,PySem.W.lookIn name od = some (mA name) :=
 let ⟨od,ho,hl⟩:=lookIn_ns I.ns
 ⟨od,⟨I.obj,rfl,rfl,ho⟩,hl⟩
section
variable {prog:Program} {w:World} {A:Around} {E:Value→Shared→Prop} {s:Shared} {K:PySem.W.Frag} {x dx C f:Addr} {mA:Str→Option Value} {name:Str} {v:Value}
end
def putF (f:Str) (v:V):List (Str × V)→List (Str × V)
 | [] => [(f,v)]
 | (g,x) :: r => if g = f then (g,v) :: r else (g,x) :: putF f v r
theorem lookup_putF (f g:Str) (v:V):∀ fs:List (Str × V),(putF f v fs).lookup g = if g = f then some v else fs.lookup g
 | [] => by
  show List.lookup g [(f,v)] = _
  by_cases h:g = f
  ·have hb:(g == f) = true:=beq_iff_eq.mpr h
   simp only [List.lookup,hb,if_pos h]
  ·have hb:(g == f) = false:=beq_eq_false_iff_ne.mpr h
   simp only [List.lookup,hb,if_neg h]
 | (k,x) :: r => by
  have ih:=lookup_putF f g v r
  rw [show putF f v ((k,x) :: r) = (if k = f then (k,v) :: r else (k,x) :: putF f v r) from rfl]
  by_cases hk:k = f
  ·rw [if_pos hk]
   by_cases h:g = k
   ·have hb:(g == k) = true:=beq_iff_eq.mpr h
    simp only [List.lookup,hb,if_pos (h.trans hk)]
   ·have hb:(g == k) = false:=beq_eq_false_iff_ne.mpr h
    simp only [List.lookup,hb,if_neg (fun e:g = f => h (e.trans hk.symm))]
  ·rw [if_neg hk]
   by_cases h:g = k
   ·have hb:(g == k) = true:=beq_iff_eq.mpr h
    simp only [List.lookup,hb,if_neg (fun e:g = f => hk (h.symm.trans e))]
   ·have hb:(g == k) = false:=beq_eq_false_iff_ne.mpr h
    simp only [List.lookup,hb]
    exact ih
theorem keys_putF (f:Str) (v:V):∀ fs:List (Str × V),f ∈ (putF f v fs).map (·.1)∧∀ g,g ∈ fs.map (·.1)→g ∈ (putF f v fs).map (·.1)
 | [] => ⟨by simp [putF],fun g h => by simp at h⟩
 | (k,x) :: r => by
  obtain ⟨i1,i2⟩:=keys_putF f v r
  rw [show putF f v ((k,x) :: r) = (if k = f then (k,v) :: r else (k,x) :: putF f v r) from rfl]
  by_cases hk:k = f
  ·rw [if_pos hk]
   subst hk
   exact ⟨by simp,fun g h => by simpa using h⟩
  ·rw [if_neg hk]
   refine ⟨?_,fun g h => ?_⟩
   ·rw [List.map_cons]
    exact List.mem_cons_of_mem _ i1
   ·rw [List.map_cons] at h ⊢
    rcases List.mem_cons.mp h with e | e
    ·exact List.mem_cons.mpr (.inl e)
    ·exact List.mem_cons_of_mem _ (i2 g e)
theorem length_putF (f:Str) (v:V):∀ fs:List (Str × V),(putF f v fs).length ≤ fs.length + 1
 | [] => by simp [putF]
 | (k,x) :: r => by
  have ih:=length_putF f v r
  rw [show putF f v ((k,x) :: r) = (if k = f then (k,v) :: r else (k,x) :: putF f v r) from rfl]
  by_cases hk:k = f
  ·rw [if_pos hk,List.length_cons,List.length_cons]; omega
  ·rw [if_neg hk,List.length_cons,List.length_cons]; omega
theorem RelO.some_of {v:V} {o:Option Value} (r:RelO (some v) o):∃ u,o = some u∧Z6 v u:=by
 cases o with
 | none => exact (show False from r).elim
 | some u => exact ⟨u,rfl,r⟩
theorem RelO.none_of {o:Option Value} (r:RelO none o):o = none:=by
 cases o with
 | none => rfl
 | some u => exact (show False from r).elim
section
variable {P:Program} {w:World} {H H':Hp} {h h':Heap} {a C dx:Addr} {fs fs':List (Str × V)}
theorem ins_get (hok:HOk P w H h) (e:H a = some (.ins C dx fs)):∃ mA,ObjM h a dx C mA∧(∀ f,RelO (fs.lookup f) (mA f))∧PySem.Within mA (fs.map (·.1))∧fs.length ≤ 1000∧H dx = some (.own a):=by
 obtain ⟨d,z,ne,ob,mA,n,r,q⟩:=(show Y0 P w H h a (.ins C dx fs) from hok a _ e)
 exact ⟨mA,⟨ob,n,ne⟩,r,q,z,d⟩
end
structure Cls (K:PySem.W.Frag) (C:Addr):Prop where
 pg:PySem.W.plainGet K C Str.empty = true
 hd:PySem.W.hasDictIn K C = true
 po:PySem.W.plainOver K C = true
 sa:PySem.W.findIn K (.ref C) "__setattr__" = some (some (.builtin "object.__setattr__"))
theorem Cls.get {K:PySem.W.Frag} {C:Addr} (c:Cls K C) (f:Str):PySem.W.plainGet K C f = true:=c.pg
def NoAttr (K:PySem.W.Frag) (C:Addr) (f:Str):Prop:=PySem.W.findIn K (.ref C) f = some none
structure Con (K:PySem.W.Frag) (C:Addr) (f:Str) (v:V) (u:Value):Prop where
 at_:PySem.W.findIn K (.ref C) f = some (some u)
 rel:Z6 v u
 get:PySem.W.specialIn K u "__get__" = some none
 cp:PySem.W.copiedNames.contains f = false
structure Meth (K:PySem.W.Frag) (C:Addr) (m:Str) (f:Addr):Prop where
 at_:PySem.W.findIn K (.ref C) m = some (some (.ref f))
 fn:PySem.W.isFn K (.ref f) = true
 kp:PySem.W.keepIn K (.ref f) = true
section
variable {X:Cx} {pins:List (Addr × Obj)} {σ:St} {H:Hp} {s:Shared} {a C dx:Addr} {fs:List (Str × V)} {f:Str} {v:V} {A:Around} {E:Value→Shared→Prop}
theorem attr_of {prog:Program} {w:World} {env:Env} {e:Expr} {f:Str} {pos:Pos} {s:Shared} {Q:Value→Shared→Prop} (hb:attributeBase e f env (eval e env) = eval e env)
  (h:wpAny (model prog w) A (eval e env) (fun o s₁ => wpAny (model prog w) A (getAttr o f true) Q E s₁) E s):wpAny (model prog w) A (eval (.Attribute e f pos) env) Q E s :=
 Attribute_any_ h (by rw [arm_eval_Attribute,hb])
end
section
variable {X:Cx} {o e value:Expr} {f:Str} {pos pos' tpos:Pos} {ta tv:TE}
end
section
variable {X:Cx} {pins:List (Addr × Obj)} {σ:St} {H:Hp} {s:Shared} {A:Around} {E:Value→Shared→Prop} {Q:Value→Shared→Prop} {c:Value} {b:Bool}
inductive TyOf (K:PySem.W.Frag) (H:Hp):V→Value→Prop where
 | non:TyOf K H .non (.type "NoneType")
 | bl (x:Bool):TyOf K H (.bl x) (.type "bool")
 | int (i:Int):TyOf K H (.int i) (.type "int")
 | str (x:Str):TyOf K H (.str x) (.type "str")
 | flt (x:UInt64):TyOf K H (.flt x) (.type "float")
 | lst {a:Addr} {xs:List V} (e:H a = some (.lst xs)):TyOf K H (.ref a) (.type "list")
 | frz {a:Addr} {o:Obj} {xs:List V} (e:H a = some (.frz o (.lst xs))):TyOf K H (.ref a) (.type "list")
 | tup {a:Addr} {xs:List V} (e:H a = some (.tup xs)):TyOf K H (.ref a) (.type "tuple")
 | dK {a:Addr} {kvs:List (Key × V)} (e:H a = some (.dK kvs)):TyOf K H (.ref a) (.type "dict")
 | dT {a:Addr} {kvs:List (List Key × V)} (e:H a = some (.dT kvs)):TyOf K H (.ref a) (.type "dict")
 | ins {a C dx:Addr} {fs:List (Str × V)} (e:H a = some (.ins C dx fs)) (cl:Cls K C) (ha:PySem.W.findIn K (.ref C) "__class__" = some (some (.builtin "object.__class__")))
   (hn:PySem.W.specialIn K (.builtin "object.__class__") "__get__" = some (some (.builtin "getset_descriptor.__get__"))) (htk:PySem.W.takesIn K (.builtin "object.__class__") = some true)
   (hm:PySem.W.mroIn K C (.type "object") = some true):TyOf K H (.ref a) (.ref C)
theorem isinst_ok {x:V} {u t:Value} (I:Zn X pins σ H s) (rx:Z6 x u) (ty:TyOf X.K H x t) (e:PySem.W.kitOne X.K t c = some b) (h:∀ tk,Q (.bool b) { s with toks:=tk }) :
  wpAny (model X.prog X.w) A (call (.builtin "isinstance") [u,c]) Q E s:=by
 cases ty with
 | non => cases (show u = Value.none from rx); exact PySem.W.kia_one PySem.W.kitx_none I.kIn True.intro e (fun z => nomatch z) h
 | bl y => cases (show u = Value.bool y from rx); exact PySem.W.kia_one PySem.W.kitx_bool I.kIn True.intro e (fun z => nomatch z) h
 | int i => obtain ⟨t,q⟩:=(show ∃ t,u = Value.int i t from rx); cases q; exact PySem.W.kia_one PySem.W.kitx_int I.kIn True.intro e (fun z => nomatch z) h
 | str y => obtain ⟨t,q⟩:=(show ∃ t,u = Value.str y t from rx); cases q; exact PySem.W.kia_one PySem.W.kitx_str I.kIn True.intro e (fun z => nomatch z) h
 | flt y => obtain ⟨t,q⟩:=(show ∃ t,u = Value.float y t from rx); cases q; exact PySem.W.kia_one PySem.W.kitx_float I.kIn True.intro e (fun z => nomatch z) h
 | @lst a xs ea =>
  cases (show u = Value.ref a from rx)
  obtain ⟨_,_,n,_,h1⟩:=(show Y0 X.prog X.w H s.heap a (.lst xs) from I.hok a _ ea)
  exact PySem.W.kia_one PySem.W.kitx_list I.kIn ⟨_,h1,rfl⟩ e (fun z => nomatch z) h
 | @frz a ob xs ea =>
  cases (show u = Value.ref a from rx)
  obtain ⟨_,_,_,n,_,h1⟩:=(show Y0 X.prog X.w H s.heap a (.frz ob (.lst xs)) from I.hok a _ ea)
  exact PySem.W.kia_one PySem.W.kitx_list I.kIn ⟨_,h1,rfl⟩ e (fun z => nomatch z) h
 | @tup a xs ea =>
  cases (show u = Value.ref a from rx)
  obtain ⟨_,_,_,p⟩:=(show Y0 X.prog X.w H s.heap a (.tup xs) from I.hok a _ ea)
  obtain ⟨o,h1,h2,_⟩:=p
  exact PySem.W.kia_one PySem.W.kitx_tuple I.kIn ⟨o,h1,h2⟩ e (fun z => nomatch z) h
 | @dK a kvs ea =>
  cases (show u = Value.ref a from rx)
  obtain ⟨_,_,vs,_,p⟩:=(show Y0 X.prog X.w H s.heap a (.dK kvs) from I.hok a _ ea)
  obtain ⟨o,es,ep,h1,h2,_⟩:=p
  exact PySem.W.kia_one PySem.W.kitx_dict I.kIn ⟨o,h1,h2.1⟩ e (fun z => nomatch z) h
 | @dT a kvs ea =>
  cases (show u = Value.ref a from rx)
  obtain ⟨_,_,xs,_,o,es,ep,h1,h2,_⟩:=(show Y0 X.prog X.w H s.heap a (.dT kvs) from I.hok a _ ea)
  exact PySem.W.kia_one PySem.W.kitx_dict I.kIn ⟨o,h1,h2.1⟩ e (fun z => nomatch z) h
 | @ins a C dx fs ea cl ha hn htk hm =>
  cases (show u = Value.ref a from rx)
  obtain ⟨mA,O,_⟩:=ins_get I.hok ea
  obtain ⟨od,J,_⟩:=O.look
  exact PySem.W.kia_one (PySem.W.kitx_own (cl.get _) cl.hd ha hn htk hm) I.kIn J e (fun z => nomatch z) h
end
structure Vb (k:Nat) (A:Around):Prop where
 hd:A.handled = none
 dp:A.depth + 3 * k + 5 < recursionLimit
 un:A.units + 16 * k + 200 < cLine
theorem Vb.mono {j k:Nat} {A:Around} (r:Vb k A) (h:j ≤ k):Vb j A:=⟨r.hd,by have:=r.dp; omega,by have:=r.un; omega⟩
theorem Vb.deeper {k:Nat} {A:Around} (r:Vb (k + 1) A) (env:Env):Vb k (A.deeper env) :=
 ⟨r.hd,by have:=r.dp; show A.depth + 1 + 3 * k + 5 < _; omega,by have:=r.un; show A.units + 3 + 16 * k + 200 < _; omega⟩
theorem Vb.in1 {k:Nat} {A:Around} (r:Vb (k + 1) A):Vb k A.in1 :=
 ⟨r.hd,by have:=r.dp; show A.depth + 3 * k + 5 < _; omega,by have:=r.un; show A.units + 1 + 16 * k + 200 < _; omega⟩
theorem make_depth {A:Around} {C:Addr} {us:List Value} {kw:List (Str × Value)}:(A.under (.builtin "type.__call__" ⟨.ref C :: us,kw⟩)).depth = A.depth + 1:=by
 first | rfl | simp [Around.under,Code.weight,Code.isCreation,Code.isGuard,Code.isCaller,Code.frames,Code.isFrame,guardIds]
theorem make_units {A:Around} {C:Addr} {us:List Value} {kw:List (Str × Value)}:(A.under (.builtin "type.__call__" ⟨.ref C :: us,kw⟩)).units = A.units + 1:=by
 first | rfl | simp [Around.under,Code.cUnits,Code.frames,Code.isFrame]
theorem Vb.make {k:Nat} {A:Around} (r:Vb (k + 1) A) (C:Addr) (us:List Value) (kw:List (Str × Value)):Vb k (A.under (.builtin "type.__call__" ⟨.ref C :: us,kw⟩)) :=
 ⟨r.hd,by have:=r.dp; rw [make_depth]; omega,by have:=r.un; rw [make_units]; omega⟩
theorem Vb.depth {k:Nat} {A:Around} (r:Vb k A):A.depth < recursionLimit:=by have:=r.dp; omega
theorem Vb.units {k:Nat} {A:Around} (r:Vb k A):A.units + 64 < cLine:=by have:=r.un; omega
def tNil:TA:=fun _ H Q => Q [] H
def Vq (ta:TE) (tr:TA):TA:=fun σ H Q => ta σ H fun x H1 => tr σ H1 fun xs H2 => Q (x :: xs) H2
section
variable {X:Cx} {e:Expr} {es:List Expr} {te:TE} {t:TA} {pos:Pos}
theorem Zx:PA X [] tNil:=fun _ _ _ _ H Q I h => Calls.spliced_nil ⟨[],H,I,.nil,h⟩
theorem Yt (ha:PE X e te) (hr:PA X es t) (hs:starEach (e :: es) X.env = (false,eval e X.env) :: starEach es X.env:=by rfl):PA X (e :: es) (Vq te t):=by
 intro pos pins s σ H Q I h
 rw [hs]
 show wpAny _ _ (spliced ((false,eval e X.env) :: backTo pos (starEach es X.env))) _ _ s
 refine Calls.spliced_cons (Vx (ha pins s σ H _ I h) fun u s1 ⟨x,H1,I1,r1,q1⟩ => ?_)
 exact Vx (hr pos pins s1 σ H1 _ I1 q1) fun us s2 ⟨xs,H2,I2,r2,q2⟩ => ⟨x :: xs,H2,I2,.cons r1 r2,q2⟩
theorem Zy (ha:PE X e te) (hr:PA X es t) (hs:starEach (e :: es) X.env = (false,eval e X.env) :: starEach es X.env):PA X (e :: es) (Vq te t):=Yt ha hr hs
def tTup (t:TA):TE:=fun σ H Q => t σ H fun xs H1 => xs.length ≤ sizeLine∧∀ p,H1 p = none→Q (.ref p) (Zo H1 p (.tup xs))
def tLst (t:TA):TE:=fun σ H Q => t σ H fun xs H1 => xs.length ≤ sizeLine∧∀ p,H1 p = none→Q (.ref p) (Zo H1 p (.lst xs))
theorem Z5 {x1} (h:PA X es t):PE X (.Tuple es x1 pos) (tTup t):=by
 intro pins s σ H Q I hq
 refine wpAny_Tuple_spliced (Vx (h pos pins s σ H _ I hq) fun us s1 ⟨xs,H1,I1,r,z,q⟩ => ⟨by rw [← r.length]; exact z, ?_⟩)
 have hf:H1 s1.heap.objs.size = none:=I1.hok.fresh (Nat.le_refl _)
 refine ⟨.ref s1.heap.objs.size,Zo H1 s1.heap.objs.size (.tup xs),I1.laid (t':=s1.toks) (fun b u e => Heap.get?_push_of_some _ e) (Nat.le_refl _) ?_,rfl,q _ hf⟩
 exact ⟨z,us,r,⟨_,Heap.get?_push_size _ rfl,rfl,_,rfl⟩⟩
theorem Yl (h:PA X es t):PE X (.List es pos) (tLst t):=by
 intro pins s σ H Q I hq
 refine wpAny_List_spliced (Vx (h pos pins s σ H _ I hq) fun us s1 ⟨xs,H1,I1,r,z,q⟩ => ⟨by rw [← r.length]; exact z, ?_⟩)
 have hf:H1 s1.heap.objs.size = none:=I1.hok.fresh (Nat.le_refl _)
 refine ⟨.ref s1.heap.objs.size,Zo H1 s1.heap.objs.size (.lst xs),I1.laid (t':=s1.toks) (fun b u e => Heap.get?_push_of_some _ e) (Nat.le_refl _) ?_,rfl,q _ hf⟩
 exact ⟨z,us,0,r,Heap.get?_push_size _ rfl⟩
end
abbrev Sp:=List V→Hp→VK→XK→Prop
abbrev CXT:=List Env→Hp→Shared→XK→Value→Shared→Prop
structure Env0 (P:Program) (w:World) (K:PySem.W.Frag) (mg:Str→Option Value) (base:Heap) (A:Around) (outer:List Env) (s:Shared) (H:Hp):Prop where
 frames:A.frames = some outer
 mod:Mod K mg base
 bs:∀ b o,base.get? b = some o→s.heap.get? b = some o∧H b = none
 bsz:base.objs.size ≤ s.heap.objs.size
 funs:s.heap.FunFrames base outer
 frf:∀ b ∈ frs outer,H b = none
 hok:HOk P w H s.heap
 bare:AllBare s.gens
def CE (outer:List Env) (P:Program) (w:World) (H:Hp) (s:Shared) (Q:VK) (u:Value) (s':Shared):Prop :=
 ∃ v H',s'.os = s.os∧AllBare s'.gens∧Un (frs outer) [] H H' s.heap s'.heap∧HOk P w H' s'.heap∧Z6 v u∧Q v H'
def CR (CX:CXT) (outer:List Env) (P:Program) (w:World) (H:Hp) (s:Shared) (Q:VK) (E:XK) (r:Result) (s':Shared):Prop :=
 match r with
 | .ok (.ret u) => CE outer P w H s Q u s'
 | .ok _ => False
 | .error e => CX outer H s E e s'
structure Yd (P:Program) (w:World) (K:PySem.W.Frag) (mg:Str→Option Value) (base:Heap) (CX:CXT) (k:Nat) (f:Addr) (fd:FuncData) (ps:List Str) (sp:Sp):Prop where
 len:∀ vs H Q E,sp vs H Q E→vs.length = ps.length
 run:∀ (A:Around) (outer:List Env) (s:Shared) (H:Hp) (args:Args) (us:List Value) (vs:List V) (Q:VK) (E:XK),Vb k A→Env0 P w K mg base A outer s H→BindsTo s fd args (ps.zip us)→Z1 vs us→sp vs H Q E →
  codeAny (model P w) A (.call (.ref f) args) (CR CX outer P w H s Q E) s
theorem Yd.mono {P:Program} {w:World} {K:PySem.W.Frag} {mg:Str→Option Value} {base:Heap} {CX:CXT} {j k:Nat} {f:Addr} {fd:FuncData} {ps:List Str} {sp:Sp} (F:Yd P w K mg base CX j f fd ps sp) (h:j ≤ k) :
  Yd P w K mg base CX k f fd ps sp:=⟨F.len,fun A outer s H args us vs Q E hr => F.run A outer s H args us vs Q E (hr.mono h)⟩
theorem Env0.make {P:Program} {w:World} {K:PySem.W.Frag} {mg:Str→Option Value} {base:Heap} {A:Around} {outer:List Env} {s:Shared} {H:Hp} (e:Env0 P w K mg base A outer s H) (C:Addr) (us:List Value) (kw:List (Str × Value)) :
  Env0 P w K mg base (A.under (.builtin "type.__call__" ⟨.ref C :: us,kw⟩)) outer s H:=⟨by first | exact e.frames | (simpa [Around.under,Code.envs,Code.isFrame,pushEnvs] using e.frames),e.mod,e.bs,e.bsz,e.funs,e.frf,e.hok,e.bare⟩
theorem Env0.in1 {P:Program} {w:World} {K:PySem.W.Frag} {mg:Str→Option Value} {base:Heap} {A:Around} {outer:List Env} {s:Shared} {H:Hp} (e:Env0 P w K mg base A outer s H) :
  Env0 P w K mg base A.in1 outer s H:=⟨e.frames,e.mod,e.bs,e.bsz,e.funs,e.frf,e.hok,e.bare⟩
section
variable {X:Cx} {pins:List (Addr × Obj)} {σ:St} {H:Hp} {s s':Shared}
theorem Zn.env0 (I:Zn X pins σ H s):Env0 X.prog X.w X.K X.mg X.base X.A X.stack s H :=
 ⟨I.ok.frames,I.ok.mod,I.bs,Nat.le_trans I.ok.bsz I.sz,I.stack,I.stkFree,I.hok,I.bare⟩
theorem Zn.after {Q:VK} {u:Value} (I:Zn X pins σ H s) (h:CE X.stack X.prog X.w H s Q u s'):EP X pins σ Q u s':=by
 obtain ⟨v,H',os,bare,un,hok,r,q⟩:=h
 obtain ⟨hh,g,d,t,os'⟩:=s'
 obtain rfl:os' = s.os:=os
 exact ⟨v,H',I.call (h':=hh) (g':=g) (d':=d) (t':=t) (ch:=[]) un hok bare (fun b z => absurd z (by simp)),r,q⟩
end
def tCall (sp:Sp) (dvs:List V) (E:XK) (t:TA):TE:=fun σ H Q => t σ H fun vs H1 => sp (vs ++ dvs) H1 Q E
def Binds (K:PySem.W.Frag) (fd:FuncData) (ps:List Str) (ds:List Value):Prop :=
 ∀ (s:Shared) (us:List Value),K.In s.heap→(us ++ ds).length = ps.length→BindsTo s fd ⟨us,[]⟩ (ps.zip (us ++ ds))
theorem Binds.all {K:PySem.W.Frag} {fd:FuncData} {ps:List Str} (h:∀ us:List Value,us.length = ps.length→bindArgs fd ⟨us,[]⟩ = pure (ps.zip us)):Binds K fd ps []:=fun s us _ hl => by
 rw [List.append_nil] at hl ⊢
 exact .of_eq (h us hl)
def Passes (CX:CXT) (X:Cx) (E:XK):Prop:=∀ (pins:List (Addr × Obj)) (σ:St) (H:Hp) (s:Shared) (e:Value) (s':Shared),Zn X pins σ H s→CX X.stack H s E e s'→X.xe e s'
section
variable {X:Cx} {CX:CXT} {k:Nat} {f C:Addr} {fd:FuncData} {ps:List Str} {sp:Sp} {dvs:List V} {ds:List Value} {E:XK} {x m:Str} {p pos apos:Pos} {e o:Expr} {es:List Expr} {ta:TE} {t:TA}
theorem run_fn {pins:List (Addr × Obj)} {σ:St} {H:Hp} {s:Shared} {Q:VK} {us:List Value} {vs:List V} (F:Yd X.prog X.w X.K X.mg X.base CX k f fd ps sp) (hr:Vb k X.A) (hb:Binds X.K fd ps ds) (hd:Z1 dvs ds) (hx:Passes CX X E)
  (I:Zn X pins σ H s) (r:Z1 vs us) (h:sp (vs ++ dvs) H Q E):wpAny (model X.prog X.w) X.A (call (.ref f) us) (EP X pins σ Q) X.xe s:=by
 have r2:Z1 (vs ++ dvs) (us ++ ds):=r.append hd
 have hl:(us ++ ds).length = ps.length:=by rw [← r2.length]; exact F.len _ _ _ _ h
 refine wpAny_call (codeAny_mono (F.run X.A X.stack s H ⟨us,[]⟩ (us ++ ds) (vs ++ dvs) Q E hr I.env0 (hb s us I.kIn hl) r2 h) fun r s' hq => ?_)
 cases r with
 | error e => exact hx pins σ H s e s' I hq
 | ok fl =>
  cases fl with
  | ret u => exact I.after hq
  | next => exact False.elim hq
  | brk => exact False.elim hq
  | cont => exact False.elim hq
theorem pe_call (F:Yd X.prog X.w X.K X.mg X.base CX k f fd ps sp) (hr:Vb k X.A) (hg:Gl X x) (hm:X.mg x = some (.ref f)) (hk:PySem.W.keepIn X.K (.ref f) = true) (hb:Binds X.K fd ps ds) (hd:Z1 dvs ds) (hx:Passes CX X E)
  (ha:PA X (e :: es) t) (hdb:(x == ("__debug__" : Str)) = false:=by decide) (he:starEach (e :: es) X.env = (false,eval e X.env) :: starEach es X.env:=by rfl) (hpl:(backTo pos (starEach es X.env)).any (·.1) = false:=by rfl) :
  PE X (.Call (.Name x p) (e :: es) [] pos) (tCall sp dvs E t):=by
 intro pins s σ H Q I h
 refine wpAny_Call_Name_kw (ld_glob I hg hm ?_ hdb)
 refine PySem.W.callWith_K (h₀:=X.base) I.ok.mod.kin hk (Vx (ha pos pins s σ H _ I h) fun us s1 ⟨vs,H1,I1,r,q⟩ => ⟨I1.kIn, ?_⟩) he hpl
 exact run_fn F hr hb hd hx I1 r q
structure Mk (K:PySem.W.Frag) (C f:Addr):Prop where
 makes:PySem.W.makesIn K C = true
 init:PySem.W.findIn K (.ref C) "__init__" = some (some (.ref f))
 fn:PySem.W.isFn K (.ref f) = true
 kp:PySem.W.keepIn K (.ref C) = true
end
section
variable {X:Cx} {CX:CXT} {k:Nat} {f C:Addr} {fd:FuncData} {ps ks:List Str} {sp:Sp} {E:XK} {x m:Str} {p pos apos kpos:Pos} {e o:Expr} {es:List Expr} {kws:List Keyword} {te ta:TE} {t tk:TA} {nm:Option Str}
structure KBinds (K:PySem.W.Frag) (fd:FuncData) (ps ks:List Str) (g:List Value→List Value→List Value) (gV:List V→List V→List V):Prop where
 to:∀ (s:Shared) (us ws:List Value),K.In s.heap→(g us ws).length = ps.length→BindsTo s fd ⟨us,ks.zip ws⟩ (ps.zip (g us ws))
 rel:∀ {vs:List V} {us:List Value} {zs:List V} {ws:List Value},Z1 vs us→Z1 zs ws→Z1 (gV vs zs) (g us ws)
variable {g:List Value→List Value→List Value} {gV:List V→List V→List V}
end
structure Ze (N P:List Str) (sc:Scope):Prop where
 kind:sc.kind = .function
 co:sc.isCoroutine = false
 gen:sc.isGenerator = false
 nd:N.Nodup
 pre:N.take P.length = P
 par:∀ x ∈ P,sc.names.lookup x = some .local ∨ sc.names.lookup x = some .cell
 nofree:∀ y ∈ sc.names,y.2 ≠ .free
theorem bindL_out {kindOf:Str→Option NameKind} {x:Str}:∀ {binds:List (Str × Value)} {m:Str→Option Value},(∀ v,(x,v) ∉ binds)→bindL kindOf binds m x = m x
 | [],_,_ => rfl
 | (n,v) :: r,m,h => by
  unfold bindL
  rw [bindL_out fun w hw => h w (List.mem_cons_of_mem _ hw)]
  split
  ·have:x ≠ n:=by rintro rfl; exact h v List.mem_cons_self
   simp [this]
  ·rfl
theorem bindC_out {kindOf:Str→Option NameKind} {x:Str}:∀ {binds:List (Str × Value)} {m:Str→Option Value},(∀ v,(x,v) ∉ binds)→bindC kindOf binds m x = m x
 | [],_,_ => rfl
 | (n,v) :: r,m,h => by
  unfold bindC
  rw [bindC_out fun w hw => h w (List.mem_cons_of_mem _ hw)]
  split
  ·rfl
  ·have:x ≠ n:=by rintro rfl; exact h v List.mem_cons_self
   simp [this]
theorem bindL_get {kindOf:Str→Option NameKind} {x:Str} {v:Value}:∀ {P:List Str} {vs:List Value} {i:Nat} {m:Str→Option Value},P.Nodup→P[i]? = some x→vs[i]? = some v→kindOf x = some .local →
  bindL kindOf (P.zip vs) m x = some v
 | [],_,_,_,_,h,_,_ => by simp at h
 | _ :: _,[],_,_,_,_,h,_ => by simp at h
 | p :: P,w :: vs,0,m,nd,h1,h2,hk => by
  simp at h1 h2; subst h1; subst h2
  show bindL kindOf ((p,w) :: P.zip vs) m p = _
  unfold bindL
  rw [bindL_out fun v hv => (List.nodup_cons.mp nd).1 (List.of_mem_zip hv).1,if_pos hk]
  simp
 | p :: P,w :: vs,i + 1,m,nd,h1,h2,hk => by
  show bindL kindOf ((p,w) :: P.zip vs) m x = _
  unfold bindL
  exact bindL_get (i:=i) (List.nodup_cons.mp nd).2 (by simpa using h1) (by simpa using h2) hk
theorem bindC_get {kindOf:Str→Option NameKind} {x:Str} {v:Value}:∀ {P:List Str} {vs:List Value} {i:Nat} {m:Str→Option Value},P.Nodup→P[i]? = some x→vs[i]? = some v→kindOf x ≠ some .local →
  bindC kindOf (P.zip vs) m x = some v
 | [],_,_,_,_,h,_,_ => by simp at h
 | _ :: _,[],_,_,_,_,h,_ => by simp at h
 | p :: P,w :: vs,0,m,nd,h1,h2,hk => by
  simp at h1 h2; subst h1; subst h2
  show bindC kindOf ((p,w) :: P.zip vs) m p = _
  unfold bindC
  rw [bindC_out fun v hv => (List.nodup_cons.mp nd).1 (List.of_mem_zip hv).1,if_neg hk]
  simp
 | p :: P,w :: vs,i + 1,m,nd,h1,h2,hk => by
  show bindC kindOf ((p,w) :: P.zip vs) m x = _
  unfold bindC
  exact bindC_get (i:=i) (List.nodup_cons.mp nd).2 (by simpa using h1) (by simpa using h2) hk
def start (N:List Str) (vs:List V):St:=vs.map some ++ List.replicate (N.length - vs.length) none
def cxOf (CX:CXT) (P:Program) (w:World) (K:PySem.W.Frag) (mg:Str→Option Value) (base:Heap) (N:List Str) (qual:Str) (scope:Scope) (f:Addr) (cd:Value) (A:Around) (outer:List Env) (s:Shared) (H:Hp) (E:XK):Cx where
 prog:=P
 w:=w
 K:=K
 mg:=mg
 base:=base
 A:=A.deeper (envOfC qual scope s.heap.objs.size f cd)
 N:=N
 s₀:=s
 H₀:=H
 env:=envOfC qual scope s.heap.objs.size f cd
 outer:=outer
 stack:=envOfC qual scope s.heap.objs.size f cd :: outer
 ex:=[]
 calm:=true
 fn:=fun _ => true
 pn:=[]
 xe:=fun e s' => wpAny (model P w) (A.deeper (envOfC qual scope s.heap.objs.size f cd)) (leaving (envOfC qual scope s.heap.objs.size f cd) e) (fun _ s'' => CX outer H s E e s'') (fun e' s'' => CX outer H s E e' s'') s'
theorem cell_has {sc:Scope} {n:Nat} {x:Str} (h:sc.names.lookup x = some .cell):∃ c,(cellsFrom n sc.names []).lookup x = some c:=by
 have q:=PySem.W.cellsFrom_some sc.names n [] (.inl h)
 exact Option.isSome_iff_exists.mp q
theorem inv_start {CX:CXT} {P:Program} {w:World} {K:PySem.W.Frag} {mg:Str→Option Value} {base:Heap} {N ps:List Str} {qual:Str} {scope:Scope} {f:Addr} {cd:Value} {A:Around} {outer:List Env} {s s1:Shared} {H:Hp} {E:XK} {us:List Value} {vs:List V}
  (S:Ze N ps scope) (hd:A.handled = none) (e0:Env0 P w K mg base A outer s H) (hl:vs.length = ps.length) (r:Z1 vs us)
  (x:InCallC s s.heap.objs.size (bindL (envOfC qual scope s.heap.objs.size f cd).kindOf (ps.zip us) fun _ => none) (cellsFrom (s.heap.objs.size + 1) scope.names []) (bindC (envOfC qual scope s.heap.objs.size f cd).kindOf (ps.zip us) fun _ => none) s1) :
  Zn (cxOf CX P w K mg base N qual scope f cd A outer s H E) [] (start N vs) H s1:=by
 have hpl:ps.length ≤ N.length:=by have:=congrArg List.length S.pre; rw [List.length_take] at this; omega
 obtain ⟨h1,tk,rfl,hk⟩:=x.done
 have noA:∀ b:Addr,b ∉ (cxOf CX P w K mg base N qual scope f cd A outer s H E).ex:=fun b z => absurd (show b ∈ ([]:List Addr) from z) (by simp)
 refine ⟨⟨e0.mod,S.kind,rfl,rfl,Nat.le_refl _,fun y z c h1 h2 => ?_,fun y hy => ?_,fun y c _ h => ?_,fun _ => hd,Around.frames_deeper e0.frames,.inr ⟨rfl,rfl⟩,fun b z => absurd z (noA b),e0.bs,e0.bsz,fun b _ _ => noA b,fun b z => absurd z (noA b),e0.funs,e0.frf⟩,
  rfl,e0.bare,Un.kept hk,⟨_,x.toInCall.ns,fun i y v h1 h2 h3 => ?_⟩,fun y c h => ⟨_,x.cell y c h⟩,e0.hok.fresh (Nat.le_refl _),fun y c h => ?_,fun p hp => absurd (show p ∈ ([]:List (Addr × Obj)) from hp) (by simp),e0.hok.kept hk, ?_⟩
 ·exact name_of_addr x.apart (PySem.mem_of_lookup h1) (PySem.mem_of_lookup h2)
 ·have hy:scope.names.lookup y = some .cell ∨ scope.names.lookup y = some .free:=hy
  rcases hy with hy | hy
  ·exact cell_has hy
  ·exact absurd rfl (S.nofree _ (PySem.mem_of_lookup hy))
 ·exact Nat.le_of_lt (x.above y c (PySem.mem_of_lookup h))
 ·have hi:i < vs.length:=by
   unfold start at h2
   by_cases hi:i < vs.length
   ·exact hi
   ·rw [List.getElem?_append_right (by simpa using hi)] at h2
    rw [List.getElem?_replicate] at h2
    split at h2 <;> cases h2
  have ha:vs[i]? = some v:=by
   unfold start at h2
   rw [List.getElem?_append_left (by simpa using hi),List.getElem?_map] at h2
   cases e:vs[i]? with
   | none => rw [e] at h2; cases h2
   | some a => rw [e] at h2; cases h2; rfl
  obtain ⟨u,hu,rv⟩:=r.get ha
  have hp:ps[i]? = some y:=by
   rw [← S.pre,List.getElem?_take_of_lt (by omega)]; exact h1
  have ndP:ps.Nodup:=by rw [← S.pre]; exact S.nd.sublist (List.take_sublist _ _)
  refine ⟨u,rv, ?_⟩
  rcases S.par y (List.mem_of_getElem? hp) with k | k
  ·exact .inl ⟨k,bindL_get ndP hp hu k⟩
  ·obtain ⟨c,e⟩:=cell_has (n:=s.heap.objs.size + 1) k
   refine .inr ⟨.inl k,c,e, ?_⟩
   have q:=x.cell y c e
   rw [bindC_get ndP hp hu (by show scope.names.lookup y ≠ _; rw [k]; decide)] at q
   exact q
 ·exact e0.hok.fresh (Nat.le_of_lt (x.above y c (PySem.mem_of_lookup h)))
 ·unfold start
  show _ = N.length
  rw [List.length_append,List.length_map,List.length_replicate]
  omega
theorem fn_of {CX:CXT} {P:Program} {w:World} {K:PySem.W.Frag} {mg:Str→Option Value} {base:Heap} {k:Nat} {f:Addr} {name qual:Str} {params:Arguments} {body:List Stmt} {scope:Scope} {dV kV doc pm cdv ct oc:Value} {an od:Option Addr}
  {osl:Array (Option Value)} {N ps:List Str} {sp:Sp} (lk:K.lookup f = some ⟨oc,od,.func (PySem.W.fnOf name qual params body scope dV kV doc pm an cdv ct),osl⟩) (hcd:PySem.W.codeIn K cdv qual = true) (S:Ze N ps scope)
  (len:∀ vs H Q E,sp vs H Q E→vs.length = ps.length)
  (hbody:∀ (A:Around) (outer:List Env) (s:Shared) (H:Hp) (vs:List V) (Q:VK) (E:XK),Vb k (A.deeper (envOfC qual scope s.heap.objs.size f cdv))→sp vs H Q E →
   ∃ t,PSs (cxOf CX P w K mg base N qual scope f cdv A outer s H E) body t∧t { nx:=fun _ H' => Q .non H',rt:=Q } (start N vs) H) :
  Yd P w K mg base CX (k + 1) f (PySem.W.fnOf name qual params body scope dV kV doc pm an cdv ct) ps sp:=by
 refine ⟨len,fun A outer s H args us vs Q E hr e0 hb r hsp => ?_⟩
 have hl:=len _ _ _ _ hsp
 have KX:K.In s.heap:=e0.mod.kin.keeps fun b o e => (e0.bs b o e).1
 have lim:s.heap.NoLimit:=e0.mod.nolimit.keeps fun b o e => (e0.bs b o e).1
 have hkind:∀ y ∈ ps.zip us,scope.names.lookup y.1 = some .local ∨ (scope.names.lookup y.1 = some .cell∧((cellsFrom (s.heap.objs.size + 1) scope.names []).lookup y.1).isSome = true):=fun ⟨n,v⟩ hy => by
  rcases S.par n (List.of_mem_zip hy).1 with q | q
  ·exact .inl q
  ·exact .inr ⟨q,PySem.W.cellsFrom_some _ _ _ (.inl q)⟩
 refine codeAny_call_function hr.depth (KX _ _ lk) rfl S.co S.gen rfl (PySem.W.codeRec_of KX hcd) (hb _ _ _ _ ?_)
 refine wpAny_newFunctionEnv_cells S.kind hkind fun env he s1 x => ?_
 subst he
 refine ⟨lim.keeps x.toInCall.keep,codeAny_func ?_⟩
 obtain ⟨t,ht,hq⟩:=hbody A outer s H vs Q E (hr.deeper _) hsp
 have I:Zn (cxOf CX P w K mg base N qual scope f cdv A outer s H E) [] (start N vs) H s1:=inv_start S hr.hd e0 hl r x
 refine wpAny_mono (ht [] s1 (start N vs) H _ I hq) (fun fl s' hs => ?_) fun e s' hs => hs
 have fin:∀ {σ':St} {H':Hp} {v:V} {u:Value},Zn (cxOf CX P w K mg base N qual scope f cdv A outer s H E) [] σ' H' s'→Z6 v u→Q v H'→CE outer P w H s Q u s' :=
  fun {σ' H' v u} J rv q => ⟨v,H',J.os,J.bare,J.base,J.hok,rv,q⟩
 cases fl with
 | ret u =>
  obtain ⟨v,σ',H',J,rv,q⟩:=hs
  exact fin J rv q
 | next =>
  obtain ⟨σ',H',J,q⟩:=hs
  exact fin (v:=V.non) (u:=Value.none) J rfl q
 | brk =>
  obtain ⟨_,_,_,q⟩:=hs
  exact False.elim q
 | cont =>
  obtain ⟨_,_,_,q⟩:=hs
  exact False.elim q
section
variable {X:Cx} {x:Str} {p pos:Pos} {e:Expr} {es:List Expr} {t:TA} {id T:String} {r:List V→Hp→VK→Prop}
def tCB (r:List V→Hp→VK→Prop) (t:TA):TE:=fun σ H Q => t σ H fun vs H1 => r vs H1 Q
theorem Zp (hc:Vi X (.builtin id) r) (hg:Gl X x) (hm:X.mg x = none) (hv:bootBuiltins x = some (.builtin id)) (ha:PA X (e :: es) t) (hn:x ≠ "__name__" := by decide) (hdb:(x == ("__debug__" : Str)) = false:=by decide)
  (he:starEach (e :: es) X.env = (false,eval e X.env) :: starEach es X.env:=by rfl) (hpl:(backTo pos (starEach es X.env)).any (·.1) = false:=by rfl):PE X (.Call (.Name x p) (e :: es) [] pos) (tCB r t):=by
 intro pins s σ H Q I h
 refine wpAny_Call_Name_kw (ld_blt I hg hm hv ?_ hn hdb)
 exact callWith_builtin1 (Vx (ha pos pins s σ H _ I h) fun us s1 ⟨vs,H1,I1,r1,q1⟩ => hc pins s1 σ H1 vs us Q I1 r1 q1) he hpl
theorem Yu (hc:Vi X (.type T) r) (hg:Gl X x) (hm:X.mg x = none) (hv:bootBuiltins x = some (.type T)) (ha:PA X (e :: es) t) (hn:x ≠ "__name__" := by decide) (hdb:(x == ("__debug__" : Str)) = false:=by decide)
  (he:starEach (e :: es) X.env = (false,eval e X.env) :: starEach es X.env:=by rfl) (hpl:(backTo pos (starEach es X.env)).any (·.1) = false:=by rfl):PE X (.Call (.Name x p) (e :: es) [] pos) (tCB r t):=by
 intro pins s σ H Q I h
 refine wpAny_Call_Name_kw (ld_blt I hg hm hv ?_ hn hdb)
 exact callWith_type1 (Vx (ha pos pins s σ H _ I h) fun us s1 ⟨vs,H1,I1,r1,q1⟩ => hc pins s1 σ H1 vs us Q I1 r1 q1) he hpl
end
end L2
namespace HT
open PySem PyProof.Rows
section
open PySem.SeqAt
open PySem.AutoSeq1 (wpAny_loadPart')
open PySem.MeetsSeq PySem.MeetsSeq2 PySem.MeetsSeq3
end
section
variable {prog:Program} {w:World} {A:Around} {E:Value→Shared→Prop} {s:Shared}
theorem cat_tup {t b:Addr} {vs ws:List Value} {Q:Value→Shared→Prop} (ht:IsTup s.heap t vs.toArray) (hb:IsTup s.heap b ws.toArray) (hv:vs ≠ [])
  (h1:ws = []→Q (.ref t) s) (h2:ws ≠ []→Q (.ref s.heap.objs.size) { s with heap:=s.heap.push { cls:=.type "tuple",data:=.seq (vs ++ ws).toArray } })
  (hsz:vs.length + ws.length ≤ sizeLine):wpAny (model prog w) A (binaryOp .Add (.ref t) (.ref b)) Q E s:=by
 obtain ⟨⟨cls,dd,data,sl⟩,ho,hc,n,hd⟩:=id ht
 obtain ⟨⟨cls2,dd2,data2,sl2⟩,ho2,hc2,n2,hd2⟩:=id hb
 simp only at hc hd hc2 hd2
 subst hc hd hc2 hd2
 have e:vs.toArray ++ ws.toArray = (vs ++ ws).toArray:=by simp
 by_cases hw:ws = []
 ·exact concat_meets ⟨_,ho,rfl⟩ ⟨_,ho2,rfl⟩ noFill_tuple_add seq_tuple_add PySem.F.slot_tuple_add PySem.F.entry_tuple_add (PySem.F.args_tuple_add_2 _ _)
   (tuple_addW1 t b vs.toArray ws.toArray n n2 dd dd2 sl sl2 (by simpa using hv) (by simp [hw])) ⟨ho,ho2,h1 hw⟩
 ·refine concat_meets ⟨_,ho,rfl⟩ ⟨_,ho2,rfl⟩ noFill_tuple_add seq_tuple_add PySem.F.slot_tuple_add PySem.F.entry_tuple_add (PySem.F.args_tuple_add_2 _ _)
   (tuple_addW2 t b vs.toArray ws.toArray n n2 dd dd2 sl sl2 (by simpa using hv) (by simpa using hw) (by rw [List.size_toArray,List.size_toArray]; exact hsz)) ⟨ho,ho2, ?_⟩
  rw [e]
  exact h2 hw
def sIx (n d:Nat):Option Int→Nat
 | none => d
 | some v => if v < 0 then (v + (n:Int)).toNat else min v.toNat n
theorem sIx_nat (n d k:Nat):sIx n d (some (k:Int)) = min k n:=by
 show (if (k:Int) < 0 then ((k:Int) + (n:Int)).toNat else min (k:Int).toNat n) = min k n
 rw [if_neg (by omega),Int.toNat_natCast]
theorem sIx_le (n d:Nat) (hd:d ≤ n) (o:Option Int):sIx n d o ≤ n:=by
 cases o with
 | none => exact hd
 | some v =>
  show (if v < 0 then (v + (n:Int)).toNat else min v.toNat n) ≤ n
  by_cases hv:v < 0
  ·rw [if_pos hv]; omega
  ·rw [if_neg hv]; exact Nat.min_le_right _ _
theorem clip_eq (v:Int) (n d:Nat):(if v < 0 then max (v + (n:Int)) 0 else min v (n:Int)) = ((sIx n d (some v):Nat):Int):=by
 show (if v < 0 then max (v + (n:Int)) 0 else min v (n:Int)) = (((if v < 0 then (v + (n:Int)).toNat else min v.toNat n):Nat):Int)
 by_cases hv:v < 0
 ·simp only [if_pos hv]; omega
 ·simp only [if_neg hv]; omega
theorem adjust_gen (lo hi:Option Int) (n:Nat):Builtin.Slice.sliceAdjust lo hi 1 (n:Int) = (((sIx n 0 lo:Nat):Int),((sIx n n hi:Nat):Int)):=by
 have h1:¬ ((1:Int) < 0):=by omega
 unfold Builtin.Slice.sliceAdjust
 simp only [h1,if_false]
 refine Prod.ext ?_ ?_
 ·cases lo with
  | none => rfl
  | some v => exact clip_eq v n 0
 ·cases hi with
  | none => rfl
  | some v => exact clip_eq v n n
theorem places_gen (i j:Nat):Builtin.Slice.slicePlaces (i:Int) (j:Int) 1 = j - i:=by
 unfold Builtin.Slice.slicePlaces
 have h1:(1:Int) > 0:=by omega
 simp only [h1,if_true,Int.ediv_one]
 split <;> omega
theorem slicePart_ {v:Value} {o:Option Int} {Q:Option Int→Shared→Prop} (p:IsPart v o) (h:Q o s):wpAny (model prog w) A (Builtin.Slice.slicePartIndex v) Q E s:=by
 cases p with
 | none => exact slicePart_none h
 | int i t => exact slicePart_int h
theorem sliceApplied_gen {sl:Addr} {vl vu:Value} {lo hi:Option Int} {n:Nat} {Q:Int × Int × Nat→Shared→Prop} (hs:s.heap.IsSliceOf sl vl vu .none) (pl:IsPart vl lo) (pu:IsPart vu hi)
  (h:Q (((sIx n 0 lo:Nat):Int),1,sIx n n hi - sIx n 0 lo) s):wpAny (model prog w) A (Builtin.Slice.sliceApplied (.ref sl) (pure (n:Int))) Q E s:=by
 obtain ⟨os,hos,hcs,hds⟩:=id hs
 unfold Builtin.Slice.sliceApplied Builtin.Slice.sliceFields
 refine wpAny_bind (wpAny_bind (wpAny_field hos hds (x:=vl) rfl (wpAny_bind (wpAny_field hos hds (x:=vu) rfl (wpAny_bind (wpAny_field hos hds (x:=.none) rfl (wpAny_pure ?_)))))))
 refine wpAny_bind (slicePart_none ?_)
 show wpAny _ _ (if ((1:Int) == 0) = true then _ else _) _ _ s
 rw [if_neg (by decide)]
 refine wpAny_bind (slicePart_ pl (wpAny_bind (slicePart_ pu (wpAny_bind (wpAny_pure ?_)))))
 show wpAny _ _ (match Builtin.Slice.sliceAdjust lo hi 1 (n:Int) with | (lo,hi) => pure (lo,(1:Int),Builtin.Slice.slicePlaces lo hi 1)) _ _ s
 rw [adjust_gen lo hi n]
 show wpAny _ _ (pure (((sIx n 0 lo:Nat):Int),(1:Int),Builtin.Slice.slicePlaces ((sIx n 0 lo:Nat):Int) ((sIx n n hi:Nat):Int) 1)) _ _ s
 rw [places_gen]
 exact wpAny_pure h
theorem pick_gen (xs:Array Value) (i k:Nat):((List.range k).filterMap fun (m:Nat) => xs[((i:Int) + (m:Int) * 1).toNat]?).toArray = ((xs.toList.drop i).take k).toArray:=by
 have e:(fun (m:Nat) => xs[((i:Int) + (m:Int) * 1).toNat]?) = fun m => xs[i + m]?:=by
  funext m
  have:((i:Int) + (m:Int) * 1).toNat = i + m:=by omega
  rw [this]
 rw [e]
 have:=pick_run xs i k
 rw [List.filterMap_map] at this
 have e2:((fun x => xs[x]?) ∘ fun x => i + x) = fun m => xs[i + m]?:=rfl
 rw [e2] at this
 rw [this]
theorem getItem_tuple_cut {t sl:Addr} {items:Array Value} {vl vu:Value} {lo hi:Option Int} {Q:Value→Shared→Prop} (ht:IsTup s.heap t items) (hs:s.heap.IsSliceOf sl vl vu .none) (pl:IsPart vl lo) (pu:IsPart vu hi)
  (hw:¬ (sIx items.size 0 lo = 0∧sIx items.size items.size hi = items.size))
  (h:Q (.ref s.heap.objs.size) { s with heap:=s.heap.push { cls:=.type "tuple",data:=.seq ((items.toList.drop (sIx items.size 0 lo)).take (sIx items.size items.size hi - sIx items.size 0 lo)).toArray } })
  (hsz:items.size ≤ sizeLine):wpAny (model prog w) A (getItem (.ref t) (.ref sl)) Q E s:=by
 have htake:sizeOk (.seq ((items.toList.drop (sIx items.size 0 lo)).take (sIx items.size items.size hi - sIx items.size 0 lo)).toArray):=by
  show ((items.toList.drop (sIx items.size 0 lo)).take (sIx items.size items.size hi - sIx items.size 0 lo)).toArray.size ≤ sizeLine
  rw [List.size_toArray,List.length_take,List.length_drop,Array.length_toList]
  omega
 have hj:sIx items.size items.size hi ≤ items.size:=sIx_le _ _ (Nat.le_refl _) hi
 obtain ⟨os,hos,hcs,hds⟩:=id hs
 have hTs:s.TypeIs (.ref sl) "slice" := ⟨os,hos,hcs⟩
 unfold getItem
 try with_reducible refine wpAny_holding ?_
 first | refine wpAny_bind (wpAny_pure ?_) | skip
 refine wpAny_bind (wpAny_sequenceKey ht.typeIs (by decide) ?_)
 refine wpAny_bind (wpAny_callSpecial?_slot (name:=Str.ofString "__getitem__") ht.typeIs slot_tuple_getitem
  (wpAny_call_entry slot_tuple_getitem ht.typeIs entry_tuple_getitem ?_ (args_tuple_getitem _ _)))
 show wpAny _ _ (Builtin.Tuple.tupleItemsOf (.ref t) >>= _) _ _ s
 refine wpAny_bind (tupleItemsOf_ ht ?_)
 refine wpAny_bind (wpAny_typeOf hTs ?_)
 rw [if_pos (by decide)]
 refine wpAny_bind (sliceApplied_gen hs pl pu ?_)
 have hno:¬ ((((sIx items.size 0 lo:Nat):Int) == 0 && (1:Int) == 1 && (sIx items.size items.size hi - sIx items.size 0 lo) == items.size) = true):=by
  intro q
  rw [Bool.and_eq_true,Bool.and_eq_true] at q
  have q1:((sIx items.size 0 lo:Nat):Int) = 0:=eq_of_beq q.1.1
  have q2:sIx items.size items.size hi - sIx items.size 0 lo = items.size:=eq_of_beq q.2
  exact hw ⟨by omega,by omega⟩
 show wpAny _ _ (if (((sIx items.size 0 lo:Nat):Int) == 0 && (1:Int) == 1 && (sIx items.size items.size hi - sIx items.size 0 lo) == items.size) = true then _ else _) _ _ s
 rw [if_neg hno,pick_gen]
 first
  | exact wpAny_bind (m:=Builtin.Tuple.tupleExact _) (wpAny_newObj_type (wpAny_pure ⟨_,rfl,wpAny_pure h⟩) htake)
  | exact wpAny_bind (m:=Builtin.Tuple.tupleExact _) (wpAny_newObj_type (wpAny_bind (wpAny_pure (wpAny_pure ⟨_,rfl,wpAny_pure h⟩))) htake)
  | exact wpAny_bind (wpAny_bind (m:=Builtin.Tuple.tupleExact _) (wpAny_newObj_type (wpAny_pure (wpAny_pure ⟨_,rfl,wpAny_pure h⟩)) htake))
  | exact wpAny_bind (wpAny_bind (m:=Builtin.Tuple.tupleExact _) (wpAny_newObj_type (wpAny_pure ⟨_,rfl,wpAny_pure h⟩) htake))
end
end HT
namespace L2
open PySem PySem.Spec PyProof.Rows
abbrev TO:=St→Hp→(Option Int→Hp→Prop)→Prop
def PO (X:Cx) (e:Option Expr) (t:TO):Prop :=
 ∀ (pins:List (Addr × Obj)) (s:Shared) (σ:St) (H:Hp) (Q:Option Int→Hp→Prop),Zn X pins σ H s→t σ H Q →
  wpAny (model X.prog X.w) X.A (evalPart e X.env) (fun u s' => ∃ o H',Zn X pins σ H' s'∧IsPart u o∧Q o H') X.xe s
def tNoPart:TO:=fun _ H Q => Q none H
def tPart (t:TE):TO:=fun σ H Q => t σ H fun x H1 => ∃ i,x = .int i∧Q (some i) H1
theorem intsAre_of {ns:List Int}:∀ {us:List Value},Z1 (ns.map V.int) us→IntsAre us ns:=by
 induction ns with
 | nil => intro us r; rw [List.map_nil] at r; cases r; exact .nil
 | cons n ns ih =>
  intro us r
  rw [List.map_cons] at r
  cases r with
  | cons r1 r2 =>
   obtain ⟨t,e⟩:=r1
   subst e
   exact .cons n t (ih r2)
section
variable {X:Cx} {e:Expr} {te:TE} {lo hi:Option Expr} {tl th:TO} {pos p2:Pos}
theorem po_none:PO X none tNoPart:=by
 intro pins s σ H Q I h
 rw [evalPart_none]
 exact wpAny_pure ⟨none,H,I,.none,h⟩
theorem po_some (h:PE X e te):PO X (some e) (tPart te):=by
 intro pins s σ H Q I hw
 rw [evalPart_some]
 refine Vx (h pins s σ H _ I hw) fun u s1 ⟨x,H1,I1,r1,q1⟩ => ?_
 obtain ⟨i,rfl,q⟩:=q1
 obtain ⟨t,rfl⟩:=r1
 exact ⟨some i,H1,I1,.int i t,q⟩
def SlR (X:Cx) (r:V→Option Int→Option Int→Hp→VK→Prop):Prop :=
 ∀ (pins:List (Addr × Obj)) (s:Shared) (σ:St) (H:Hp) (x:V) (v vl vu:Value) (lo hi:Option Int) (sl:Addr) (Q:VK),Zn X pins σ H s→Z6 x v→s.heap.IsSliceOf sl vl vu .none→IsPart vl lo→IsPart vu hi→r x lo hi H Q →
  ∃ T id,typeLookup (.type T) "__getitem__" = pure (some (.builtin id))∧s.TypeIs v T∧wpAny (model X.prog X.w) X.A (getItem v (.ref sl)) (EP X pins σ Q) X.xe s
def tSl (r:V→Option Int→Option Int→Hp→VK→Prop) (te:TE) (tl th:TO):TE:=fun σ H Q => te σ H fun x H1 => tl σ H1 fun l H2 => th σ H2 fun u H3 => r x l u H3 Q
theorem pe_slice {r:V→Option Int→Option Int→Hp→VK→Prop} (hr:SlR X r) (he:PE X e te) (hl:PO X lo tl) (hu:PO X hi th):PE X (.Subscript e (.Slice lo hi none p2) pos) (tSl r te tl th):=by
 intro pins s σ H Q I h
 refine Subscript_ (Vx (he pins s σ H _ I h) fun v s1 ⟨x,H1,I1,r1,q1⟩ => ?_)
 refine wpAny_Slice (Vx (hl pins s1 σ H1 _ I1 q1) fun vl s2 ⟨l,H2,I2,pl,q2⟩ => Vx (hu pins s2 σ H2 _ I2 q2) fun vu s3 ⟨u,H3,I3,pu,q3⟩ => ?_)
 rw [evalPart_none]
 refine wpAny_pure ?_
 have I4:Zn X pins σ H3 { s3 with heap:=s3.heap.push { cls:=.type "slice",data:=.fields #[vl,vu,.none] } }:=I3.kept (t':=s3.toks) fun b ob q => Heap.get?_push_of_some _ q
 obtain ⟨T,id,hT,ht,hg⟩:=hr pins { s3 with heap:=s3.heap.push { cls:=.type "slice",data:=.fields #[vl,vu,.none] } } σ H3 x v vl vu l u s3.heap.objs.size Q I4 r1 (Heap.IsSliceOf.new ..) pl pu q3
 show wpAny (model X.prog X.w) X.A (subscriptTail e (.Slice lo hi none p2) v (.ref s3.heap.objs.size)) (EP X pins σ Q) X.xe { s3 with heap:=s3.heap.push { cls:=.type "slice",data:=.fields #[vl,vu,.none] } }
 exact tail_any (ops:=[.ref s3.heap.objs.size,v]) ht hT hg (by with_unfolding_all rfl)
def cutV (xs:List V) (lo hi:Option Int):List V:=(xs.drop (HT.sIx xs.length 0 lo)).take (HT.sIx xs.length xs.length hi - HT.sIx xs.length 0 lo)
theorem cutV_length (xs:List V) (lo hi:Option Int):(cutV xs lo hi).length ≤ xs.length:=by
 unfold cutV
 rw [List.length_take,List.length_drop]
 omega
def rSlT (K:PySem.W.Frag):V→Option Int→Option Int→Hp→VK→Prop:=fun x lo hi H Q => ∃ a xs,x = .ref a∧Z9 K H a xs ∧
 ¬ (HT.sIx xs.length 0 lo = 0∧HT.sIx xs.length xs.length hi = xs.length)∧∀ p,H p = none→Q (.ref p) (Zo H p (.tup (cutV xs lo hi)))
theorem sl_tup:SlR X (rSlT X.K):=by
 intro pins s σ H x v vl vu lo hi sl Q I rx hs pl pu h
 obtain ⟨a,xs,rfl,hx,hw,q⟩:=h
 cases rx
 obtain ⟨its,r,ht,hz⟩:=I.tuple hx
 have hlen:its.toArray.size = xs.length:=by rw [List.size_toArray]; exact r.length.symm
 refine ⟨"tuple",_,slot_tuple_getitem.lookup,ht.typeIs, ?_⟩
 refine HT.getItem_tuple_cut ht hs pl pu (by rw [hlen]; exact hw) ?_ (by rw [hlen]; exact hz)
 rw [hlen]
 refine ⟨.ref s.heap.objs.size,_,I.laid (t':=s.toks) (o:=.tup (cutV xs lo hi)) (fun b ob q => Heap.get?_push_of_some _ q) (Nat.le_refl _) ?_,rfl,q _ (I.hok.fresh (Nat.le_refl _))⟩
 exact ⟨Nat.le_trans (cutV_length xs lo hi) hz,_,(r.drop (HT.sIx xs.length 0 lo)).take (HT.sIx xs.length xs.length hi - HT.sIx xs.length 0 lo),IsTup.new _ _⟩
def rCatT (K:PySem.W.Frag):R2:=fun x y H Q => ∃ a b xs ys,x = .ref a∧y = .ref b∧Z9 K H a xs∧Z9 K H b ys∧xs ≠ []∧xs.length + ys.length ≤ sizeLine ∧
 (ys = []→Q (.ref a) H)∧(ys ≠ []→∀ p,H p = none→Q (.ref p) (Zo H p (.tup (xs ++ ys))))
theorem Z1.nil_iff {xs:List V} {us:List Value} (r:Z1 xs us):us = [] ↔ xs = []:=by
 cases r with
 | nil => simp
 | cons _ _ => simp
theorem op_catT:OpR X (binaryOp .Add) (rCatT X.K):=by
 intro pins s σ H x y v u Q I rx ry h
 obtain ⟨a,b,xs,ys,rfl,rfl,ha,hb,hx,hz,q1,q2⟩:=h
 cases rx
 cases ry
 obtain ⟨its,r1,p1,_⟩:=I.tuple ha
 obtain ⟨its2,r2,p2,_⟩:=I.tuple hb
 refine HT.cat_tup p1 p2 (fun z => hx (r1.nil_iff.mp z)) (fun z => ⟨.ref a,H,I,rfl,q1 (r2.nil_iff.mp z)⟩) (fun z => ?_) (by rw [← r1.length, ← r2.length]; exact hz)
 refine ⟨.ref s.heap.objs.size,_,I.laid (t':=s.toks) (o:=.tup (xs ++ ys)) (fun b ob q => Heap.get?_push_of_some _ q) (Nat.le_refl _) ?_,rfl,q2 (fun w => z (r2.nil_iff.mpr w)) _ (I.hok.fresh (Nat.le_refl _))⟩
 exact ⟨by rw [List.length_append]; exact hz,_,r1.append r2,IsTup.new _ _⟩
end
def ixN (n:Nat) (i:Int):Option Nat:=if 0 ≤ i then (if i < n then some i.toNat else none) else if -(n:Int) ≤ i then some (i + n).toNat else none
def atI {α:Type} (xs:List α) (i:Int):Option α:=(ixN xs.length i).bind fun j => xs[j]?
theorem ixN_seq {n:Nat} {i:Int} {j:Nat} (h:ixN n i = some j):seqIndex? i n = some j∧j < n∧-(n:Int) ≤ i∧i < n:=by
 unfold ixN at h
 by_cases h0:0 ≤ i
 ·rw [if_pos h0] at h
  by_cases h1:i < n
  ·rw [if_pos h1] at h
   have e:i.toNat = j:=Option.some.inj h
   exact ⟨by rw [seqIndex_of h0 h1,e],by omega,by omega,h1⟩
  ·rw [if_neg h1] at h; cases h
 ·rw [if_neg h0] at h
  by_cases h1:-(n:Int) ≤ i
  ·rw [if_pos h1] at h
   have e:(i + n).toNat = j:=Option.some.inj h
   exact ⟨by rw [seqIndex_neg (by omega) h1,e],by omega,h1,by omega⟩
  ·rw [if_neg h1] at h; cases h
theorem atI_get {α:Type} {xs:List α} {i:Int} {v:α} (h:atI xs i = some v):∃ j,seqIndex? i xs.length = some j∧xs[j]? = some v∧j < xs.length∧-(xs.length:Int) ≤ i∧i < xs.length:=by
 unfold atI at h
 cases e:ixN xs.length i with
 | none => rw [e] at h; cases h
 | some j =>
  rw [e] at h
  obtain ⟨h1,h2,h3,h4⟩:=ixN_seq e
  exact ⟨j,h1,h,h2,h3,h4⟩
theorem Z7 {α:Type} {xs:List α} {j:Nat} {v:α} (h:xs[j]? = some v):atI xs (j:Int) = some v:=by
 have hj:j < xs.length:=(List.getElem?_eq_some_iff.mp h).1
 have e:ixN xs.length (j:Int) = some j:=by
  unfold ixN
  rw [if_pos (by omega),if_pos (by omega)]; simp
 unfold atI; rw [e]; exact h
theorem atI_last {α:Type} (xs:List α) (v:α):atI (xs ++ [v]) (-1) = some v:=by
 have hl:(xs ++ [v]).length = xs.length + 1:=by simp
 have e:ixN (xs ++ [v]).length (-1) = some xs.length:=by
  unfold ixN
  rw [hl,if_neg (by decide),if_pos (by omega)]
  congr 1
  omega
 unfold atI
 rw [e]
 show (xs ++ [v])[xs.length]? = some v
 simp
def PlainIx (b:Expr):Prop:=∀ o i,subscripted b false o i = operate [o,i] (getItem o i)
def IxR (X:Cx) (r:R2):Prop :=
 ∀ (value slice:Expr) (pins:List (Addr × Obj)) (s:Shared) (σ:St) (H:Hp) (x y:V) (v u:Value) (Q:VK),Zn X pins σ H s→Z6 x v→Z6 y u→r x y H Q →
  subscripted slice false v u = operate [v,u] (getItem v u)→wpAny (model X.prog X.w) X.A (subscriptTail value slice v u) (EP X pins σ Q) X.xe s
def MtR (X:Cx) (id:String) (r:V→List V→Hp→VK→Prop):Prop :=
 ∀ (pins:List (Addr × Obj)) (s:Shared) (σ:St) (H:Hp) (x:V) (xs:List V) (v:Value) (us:List Value) (Q:VK),Zn X pins σ H s→Z6 x v→Z1 xs us→r x xs H Q →
  wpAny (model X.prog X.w) X.A (call (.builtin id) (v :: us)) (EP X pins σ Q) X.xe s
section
variable {X:Cx} {a b:Expr} {ta tb:TE} {pos:Pos}
theorem Zc {r:R2} (hr:IxR X r) (ha:PE X a ta) (hb:PE X b tb) (hs:PlainIx b):PE X (.Subscript a b pos) (tOp r ta tb):=by
 intro pins s σ H Q I h
 exact Subscript_ (binT ha hb I h fun v u s2 x y H2 I2 rx ry q => hr a b pins s2 σ H2 x y v u Q I2 rx ry q (hs _ _))
def rIxL (K:PySem.W.Frag):R2:=fun x y H Q => ∃ p xs i v,x = .ref p∧y = .int i∧Yg K H p xs∧atI xs i = some v∧Q v H
def rIxT (K:PySem.W.Frag):R2:=fun x y H Q => ∃ p xs i v,x = .ref p∧y = .int i∧Z9 K H p xs∧atI xs i = some v∧Q v H
def rIxS:R2:=fun x y H Q => ∃ z i c,x = .str z∧y = .int i∧z.length ≤ sizeLine∧atI z.cps.toList i = some c∧Q (.str ⟨#[c]⟩) H
theorem Yv:IxR X (rIxL X.K):=by
 intro value slice pins s σ H x y v u Q I rx ry h hs
 obtain ⟨p,xs,i,z,rfl,rfl,hq,he,q⟩:=h
 cases rx
 obtain ⟨t,rfl⟩:=ry
 obtain ⟨its,r,pl,hz⟩:=I.list hq
 obtain ⟨j,h1,h2,h3,h4,h5⟩:=atI_get he
 obtain ⟨w,ew,rw'⟩:=r.get h2
 have hl:=r.length
 have hn:=line63
 have fin:EP X pins σ Q w s:=⟨z,H,I,rw',q⟩
 by_cases h0:0 ≤ i
 ·have hj:i.toNat = j:=by
   rw [seqIndex_of h0 h5] at h1
   exact Option.some.inj h1
  exact item_listR pl.isList h0 (by omega) (by rw [hj]; simpa using ew) fin hs
 ·have hj:(i + (its.toArray.size:Int)).toNat = j:=by
   rw [seqIndex_neg (by omega) h4] at h1
   rw [List.size_toArray, ← hl]
   exact Option.some.inj h1
  exact subscriptTail_builtinR (x:=w) pl.isList.typeIs slot_list_getitem.lookup
   (wpAny_getItem_list_neg (Q:=fun r s' => r = w∧EP X pins σ Q r s') pl.isList (by omega) (by rw [List.size_toArray] <;> omega) (by omega) (by rw [hj]; simpa using ew) ⟨rfl,fin⟩) hs
theorem Zl:IxR X (rIxT X.K):=by
 intro value slice pins s σ H x y v u Q I rx ry h hs
 obtain ⟨p,xs,i,z,rfl,rfl,hq,he,q⟩:=h
 cases rx
 obtain ⟨t,rfl⟩:=ry
 obtain ⟨its,r,pl,hz⟩:=I.tuple hq
 obtain ⟨j,h1,h2,h3,h4,h5⟩:=atI_get he
 obtain ⟨w,ew,rw'⟩:=r.get h2
 have hl:=r.length
 have hn:=line63
 have fin:EP X pins σ Q w s:=⟨z,H,I,rw',q⟩
 exact subscriptTail_builtinR (x:=w) pl.typeIs slot_tuple_getitem.lookup
  (getItem_tuple (j:=j) (Q:=fun r s' => r = w∧EP X pins σ Q r s') pl (by omega) (by omega) (by rw [List.size_toArray, ← hl]; exact h1) (by simpa using ew) ⟨rfl,fin⟩) hs
theorem ix_str:IxR X rIxS:=by
 intro value slice pins s σ H x y v u Q I rx ry h hs
 obtain ⟨z,i,c,rfl,rfl,hz,he,q⟩:=h
 obtain ⟨t,rfl⟩:=rx
 obtain ⟨t',rfl⟩:=ry
 obtain ⟨j,h1,h2,h3,h4,h5⟩:=atI_get he
 have hl:z.cps.toList.length = z.length:=by simp [Str.length]
 rw [hl] at h1 h4 h5
 have hn:=line63
 exact tail_any (typeIs_str s z t) slot_str_getitem.lookup (getItem_str (c:=c) (by
  have e1:decide (i < -(2 ^ 63:Int)) = false:=decide_eq_false (by omega)
  have e2:decide (i ≥ 2 ^ 63) = false:=decide_eq_false (by omega)
  rw [e1,e2,Bool.or_false]) (by rw [h1]; simpa using h2) ⟨.str ⟨#[c]⟩,H,I.tok _,⟨_,rfl⟩,q⟩) hs
theorem mapSeq_set (its:List Value) (n j:Nat) (u:Value):Obj.mapSeq (·.setIfInBounds j u) { cls:=.type "list",data:=.seq its.toArray n } = { cls:=.type "list",data:=.seq (its.set j u).toArray n }:=by
 simp [Obj.mapSeq]
theorem Zn.lst {pins:List (Addr × Obj)} {σ:St} {H:Hp} {s:Shared} {p:Addr} {xs:List V} (I:Zn X pins σ H s) (h:H p = some (.lst xs)) :
  ∃ (its:List Value) (n:Nat),Z1 xs its∧s.heap.get? p = some { cls:=.type "list",data:=.seq its.toArray n }∧xs.length ≤ sizeLine:=by
 obtain ⟨z,its,n,r,e⟩:=I.hok p _ h
 exact ⟨its,n,r,e,z⟩
theorem Zn.lstUpd {pins:List (Addr × Obj)} {σ:St} {H:Hp} {s:Shared} {p:Addr} {xs ys:List V} {its its':List Value} {n n':Nat} {f:Obj→Obj} (I:Zn X pins σ H s) (h:H p = some (.lst xs))
  (ho:s.heap.get? p = some { cls:=.type "list",data:=.seq its.toArray n }) (hf:f { cls:=.type "list",data:=.seq its.toArray n } = { cls:=.type "list",data:=.seq its'.toArray n' }) (r:Z1 ys its') (hz:ys.length ≤ sizeLine) (t:Nat) :
  Zn X pins σ (Zo H p (.lst ys)) { s with heap:=s.heap.update p f,toks:=t }:=by
 have e:(s.heap.update p f).get? p = some { cls:=.type "list",data:=.seq its'.toArray n' }:=by
  rw [Heap.get?_update_self f ho (by rw [hf] <;> rfl),hf]
 refine I.write (x:=p) (e:=p) (by rw [h]; trivial) (.inl rfl) (fun b u hb q => (Heap.get?_update_other _ _ (Ne.symm hb)).trans q) ⟨_,e⟩ ?_
 exact ⟨hz,its',n',r,e⟩
def rSetL:V→V→V→Hp→(Hp→Prop)→Prop:=fun o i v H Q => ∃ p xs k j,o = .ref p∧i = .int k∧H p = some (.lst xs)∧ixN xs.length k = some j∧Q (Zo H p (.lst (xs.set j v)))
theorem set_list:PSet X rSetL:=by
 intro pins s σ H o i v ov iv u Q I ro ri rv h
 obtain ⟨p,xs,k,j,rfl,rfl,hp,hj,q⟩:=h
 cases ro
 obtain ⟨t,rfl⟩:=ri
 obtain ⟨its,n,r,ho,hz⟩:=I.lst hp
 obtain ⟨h1,h2,h3,h4⟩:=ixN_seq hj
 have hl:=r.length
 have hn:=line63
 have I':Zn X pins σ (Zo H p (.lst (xs.set j v))) { s with heap:=s.heap.update p (Obj.mapSeq (·.setIfInBounds j u)) } :=
  I.lstUpd hp ho (mapSeq_set its n j u) (r.set rv j) (by rw [List.length_set]; exact hz) s.toks
 by_cases h0:0 ≤ k
 ·have hk:k.toNat = j:=by
   rw [seqIndex_of h0 h4] at h1
   exact Option.some.inj h1
  exact PySem.W.ki_setAt ho h0 (by omega) (by rw [List.size_toArray, ← hl]; exact h4) (by rw [hk]; exact ⟨_,I',q⟩)
 ·have hk:(k + (its.toArray.size:Int)).toNat = j:=by
   rw [seqIndex_neg (by omega) h3] at h1
   rw [List.size_toArray, ← hl]
   exact Option.some.inj h1
  exact PySem.W.ki_setBack ho (by omega) (by rw [List.size_toArray, ← hl]; exact h3) (by omega) (by rw [hk]; exact ⟨_,I',q⟩)
def flatV:V→Bool
 | .non => true
 | .bl _ => true
 | .int _ => true
 | .str _ => true
 | _ => false
def eqV:V→V→Bool
 | .non,.non => true
 | .bl a,.bl b => a == b
 | .bl a,.int b => (if a then 1 else 0) == b
 | .int a,.bl b => a == (if b then 1 else 0)
 | .int a,.int b => a == b
 | .str a,.str b => a == b
 | _,_ => false
theorem eqAt_V {A:Around} {s:Shared} {y x:V} {u v:Value} (ry:Z6 y u) (rx:Z6 x v) (fy:flatV y = true) (fx:flatV x = true):SeqAt.EqAt A s u v (eqV y x):=by
 cases y with
 | non =>
  cases ry
  cases x with
  | non => cases rx; exact SeqAt.EqAt.same _
  | bl b => cases rx; exact SeqAt.EqAt.none_bool b
  | int b => obtain ⟨t,rfl⟩:=rx; exact SeqAt.EqAt.none_int b t
  | str b => obtain ⟨t,rfl⟩:=rx; exact SeqAt.EqAt.none_str b t
  | _ => exact absurd (show false = true from fx) Bool.false_ne_true
 | bl a =>
  cases ry
  cases x with
  | non => cases rx; exact SeqAt.EqAt.bool_none a
  | bl b => cases rx; exact SeqAt.EqAt.bool_bool a b
  | int b => obtain ⟨t,rfl⟩:=rx; exact SeqAt.EqAt.bool_int a b t
  | str b => obtain ⟨t,rfl⟩:=rx; exact SeqAt.EqAt.bool_str a b t
  | _ => exact absurd (show false = true from fx) Bool.false_ne_true
 | int a =>
  obtain ⟨t',rfl⟩:=ry
  cases x with
  | non => cases rx; exact SeqAt.EqAt.int_none a t'
  | bl b => cases rx; exact SeqAt.EqAt.int_bool a t' b
  | int b => obtain ⟨t,rfl⟩:=rx; exact SeqAt.EqAt.int_int a t' b t
  | str b => obtain ⟨t,rfl⟩:=rx; exact SeqAt.EqAt.int_str a t' b t
  | _ => exact absurd (show false = true from fx) Bool.false_ne_true
 | str a =>
  obtain ⟨t',rfl⟩:=ry
  cases x with
  | non => cases rx; exact SeqAt.EqAt.str_none a t'
  | bl b => cases rx; exact SeqAt.EqAt.str_bool a t' b
  | int b => obtain ⟨t,rfl⟩:=rx; exact SeqAt.EqAt.str_int a t' b t
  | str b => obtain ⟨t,rfl⟩:=rx; exact SeqAt.EqAt.str_str a t' b t
  | _ => exact absurd (show false = true from fx) Bool.false_ne_true
 | _ => exact absurd (show false = true from fy) Bool.false_ne_true
def eqU (x:V) (u:Value):Bool:=match u with
 | .none => eqV .non x
 | .bool b => eqV (.bl b) x
 | .int i _ => eqV (.int i) x
 | .str z _ => eqV (.str z) x
 | _ => false
theorem eqU_of {x y:V} {u:Value} (r:Z6 y u) (f:flatV y = true):eqU x u = eqV y x:=by
 cases y with
 | non => cases r; rfl
 | bl b => cases r; rfl
 | int i => obtain ⟨t,rfl⟩:=r; rfl
 | str z => obtain ⟨t,rfl⟩:=r; rfl
 | _ => exact absurd (show false = true from f) Bool.false_ne_true
theorem any_eqU {x:V}:∀ {xs:List V} {us:List Value},Z1 xs us→xs.all flatV = true→us.any (eqU x) = xs.any fun y => eqV y x
 | _,_,.nil,_ => rfl
 | y :: xs,u :: us,.cons r t,f => by
  rw [List.all_cons,Bool.and_eq_true] at f
  rw [List.any_cons,List.any_cons,eqU_of r f.1,any_eqU t f.2]
theorem mem_eqAt {A:Around} {s:Shared} {x:V} {v:Value} (rx:Z6 x v) (fx:flatV x = true):∀ {xs:List V} {us:List Value},Z1 xs us→xs.all flatV = true→∀ u ∈ us,SeqAt.EqAt A s u v (eqU x u)
 | _,_,.nil,_ => fun u hu => by cases hu
 | y :: xs,u :: us,.cons r t,f => fun u' hu => by
  rw [List.all_cons,Bool.and_eq_true] at f
  rcases List.mem_cons.mp hu with rfl | hu
  ·rw [eqU_of r f.1]; exact eqAt_V r rx f.1 fx
  ·exact mem_eqAt rx fx t f.2 u' hu
def inV (x:V) (xs:List V):Bool:=xs.any fun y => eqV y x
def rIn (K:PySem.W.Frag) (neg:Bool):R2:=fun x y H Q => ∃ p xs,y = .ref p∧(Yg K H p xs ∨ Z9 K H p xs)∧flatV x = true∧xs.all flatV = true∧Q (.bl (if neg then !inV x xs else inV x xs)) H
theorem op_in_seq:OpR X (compareOp .In) (rIn X.K false):=by
 intro pins s σ H x y v u Q I rx ry h
 obtain ⟨p,xs,rfl,hq,fx,fs,q⟩:=h
 cases ry
 rcases hq with hq | hq
 ·obtain ⟨its,r,pl,hz⟩:=I.list hq
  refine SeqAt.in_listAt (eqU x) pl.isList (fun w hw => mem_eqAt rx fx r fs w (by simpa using hw)) ⟨.bl _,H,I,rfl, ?_⟩
  rw [show its.toArray.any (eqU x) = its.any (eqU x) by simp,any_eqU r fs]
  exact q
 ·obtain ⟨its,r,pl,hz⟩:=I.tuple hq
  refine SeqAt.in_tupleAt (eqU x) pl (fun w hw => mem_eqAt rx fx r fs w (by simpa using hw)) ⟨.bl _,H,I,rfl, ?_⟩
  rw [show its.toArray.any (eqU x) = its.any (eqU x) by simp,any_eqU r fs]
  exact q
theorem Z2:Vi X (.builtin "len") (fun xs H Q => ∃ p ys,xs = [.ref p]∧(Yg X.K H p ys ∨ Z9 X.K H p ys)∧Q (.int ys.length) H):=by
 intro pins s σ H xs us Q I r h
 obtain ⟨p,ys,rfl,hq,q⟩:=h
 obtain ⟨u,rfl,rx⟩:=vals1 r
 cases rx
 have hn:=line63
 rcases hq with hq | hq
 ·obtain ⟨its,r',pl,hz⟩:=I.list hq
  have hlen:=r'.length
  exact Calls.call_len_list pl.isList (by simp only [List.size_toArray] <;> omega) ⟨.int ys.length,H,I.tok _,⟨s.toks + 1,by rw [List.size_toArray,hlen]⟩,q⟩
 ·obtain ⟨its,r',pl,hz⟩:=I.tuple hq
  have hlen:=r'.length
  exact len_tuple pl (by simp only [List.size_toArray] <;> omega) ⟨.int ys.length,H,I.tok _,⟨s.toks + 1,by rw [List.size_toArray,hlen]⟩,q⟩
theorem call_len_str:Vi X (.builtin "len") (fun xs H Q => ∃ z,xs = [.str z]∧z.length ≤ sizeLine∧Q (.int z.length) H):=by
 intro pins s σ H xs us Q I r h
 obtain ⟨z,rfl,hz,q⟩:=h
 obtain ⟨u,rfl,t,rfl⟩:=vals1 r
 have hn:=line63
 exact len_str (by omega) ⟨.int z.length,H,I.tok _,⟨_,rfl⟩,q⟩
theorem call_list_of:Vi X (.type "list") (fun xs H Q => ∃ p ys,xs = [.ref p]∧(Yg X.K H p ys ∨ Z9 X.K H p ys)∧∀ l,H l = none→Q (.ref l) (Zo H l (.lst ys))):=by
 intro pins s σ H xs us Q I r h
 obtain ⟨p,ys,rfl,hq,q⟩:=h
 obtain ⟨u,rfl,rx⟩:=vals1 r
 cases rx
 have fin:∀ (its:List Value),Z1 ys its→ys.length ≤ sizeLine→∀ (h':Heap) (c':Nat),(∀ b o',s.heap.get? b = some o'→h'.get? b = some o') →
   h'.get? s.heap.objs.size = some { cls:=.type "list",dict:=none,data:=.seq its.toArray c',slots:=#[] }→EP X pins σ Q (.ref s.heap.objs.size) { s with heap:=h' }:=fun its r' hz h' c' kp e =>
  ⟨.ref s.heap.objs.size,_,I.laid (t':=s.toks) kp (Nat.le_refl _) (show Y0 X.prog X.w _ h' _ (.lst ys) from ⟨hz,its,c',r',e⟩),rfl,q _ (I.hok.fresh (Nat.le_refl _))⟩
 rcases hq with hq | hq
 ·obtain ⟨its,r',pl,hz⟩:=I.list hq
  have hlen:=r'.length
  obtain ⟨o,ho,hc,n,hd⟩:=pl.isList
  exact call_list_seq p (.inl rfl) ho hc hd (fun h' c' kp e => fin its r' hz h' c' kp e) (by simp only [List.size_toArray] <;> omega)
 ·obtain ⟨its,r',pl,hz⟩:=I.tuple hq
  have hlen:=r'.length
  obtain ⟨o,ho,hc,n,hd⟩:=pl
  exact call_list_seq p (.inr rfl) ho hc hd (fun h' c' kp e => fin its r' hz h' c' kp e) (by simp only [List.size_toArray] <;> omega)
theorem Y1:Vi X (.type "tuple") (fun xs H Q => ∃ p ys,xs = [.ref p]∧((Yg X.K H p ys∧∀ l,H l = none→Q (.ref l) (Zo H l (.tup ys))) ∨ (Z9 X.K H p ys∧Q (.ref p) H))):=by
 intro pins s σ H xs us Q I r h
 obtain ⟨p,ys,rfl,h⟩:=h
 obtain ⟨u,rfl,rx⟩:=vals1 r
 cases rx
 rcases h with ⟨hq,q⟩ | ⟨hq,q⟩
 ·obtain ⟨its,r',pl,hz⟩:=I.list hq
  have hlen:=r'.length
  refine call_tuple_list pl.isList (fun h' kp => ?_) (by simp only [List.size_toArray] <;> omega)
  have I1:Zn X pins σ H { s with heap:=h' }:=I.kept (t':=s.toks) kp
  have I2:Zn X pins σ (Zo H h'.objs.size (.tup ys)) { s with heap:=h'.push { cls:=.type "tuple",data:=.seq its.toArray } } :=
   I1.laid (t':=s.toks) (fun b o e => Heap.get?_push_of_some _ e) (Nat.le_refl _) (show Y0 X.prog X.w _ _ _ (.tup ys) from ⟨hz,its,r',IsTup.new _ _⟩)
  exact ⟨.ref h'.objs.size,_,I2,rfl,q _ (I1.hok.fresh (Nat.le_refl _))⟩
 ·obtain ⟨its,r',pl,hz⟩:=I.tuple hq
  exact call_tuple_same pl ⟨.ref p,H,I,rfl,q⟩
def tyV (K:PySem.W.Frag) (T:String) (x:V) (H:Hp):Prop:=match x with
 | .str _ => T = "str"
 | .int _ => T = "int"
 | .ref p => (T = "list" ∧ ∃ xs,Yg K H p xs) ∨ (T = "tuple" ∧ ∃ o,K.lookup p = some o∧o.cls = .type "tuple" ∧ o.dict = none) ∨
   (T = "dict" ∧ ((∃ kvs,H p = some (.dK kvs)) ∨ ∃ kvs,H p = some (.dT kvs))) ∨ (T = "set" ∧ ∃ S n,H p = some (.set S n))
 | _ => False
theorem tyV_is {pins:List (Addr × Obj)} {σ:St} {H:Hp} {s:Shared} {T:String} {x:V} {v:Value} (I:Zn X pins σ H s) (r:Z6 x v) (ty:tyV X.K T x H) :
  s.TypeIs v T∧∀ a,v = .ref a→∃ ob,s.heap.get? a = some ob∧ob.dict = none:=by
 cases x with
 | str z =>
  obtain ⟨t,rfl⟩:=r
  cases (show T = "str" from ty)
  exact ⟨typeIs_str s z t,fun _ e => nomatch e⟩
 | int i =>
  obtain ⟨t,rfl⟩:=r
  cases (show T = "int" from ty)
  exact ⟨typeIs_int s i t,fun _ e => nomatch e⟩
 | ref p =>
  cases r
  rcases ty with ⟨rfl,xs,hq⟩ | ⟨rfl,o,hk,hc,hd⟩ | ⟨rfl,hk⟩ | ⟨rfl,S,n,hk⟩
  ·obtain ⟨its,_,pl,_⟩:=I.list hq
   refine ⟨pl.isList.typeIs,fun a e => ?_⟩
   cases e
   obtain ⟨o,n,e,c,hd,_⟩:=pl
   exact ⟨o,e,hd⟩
  ·refine ⟨⟨o,I.kIn p o hk,hc⟩,fun a e => ?_⟩
   cases e
   exact ⟨o,I.kIn _ o hk,hd⟩
  ·have z:∃ o,s.heap.get? p = some o∧o.ExactDict:=by
    rcases hk with ⟨kvs,hk⟩ | ⟨kvs,hk⟩
    ·obtain ⟨_,_,_,_,o,_,_,e,ex,_⟩:=I.hok p _ hk
     exact ⟨o,e,ex⟩
    ·obtain ⟨_,_,_,_,o,_,_,e,ex,_⟩:=I.hok p _ hk
     exact ⟨o,e,ex⟩
   obtain ⟨o,e,ex⟩:=z
   refine ⟨⟨o,e,ex.1⟩,fun a e2 => ?_⟩
   cases e2
   exact ⟨o,e,ex.2.1⟩
  ·obtain ⟨o,_,_,_,e,ex,_⟩:=I.hok p _ hk
   refine ⟨⟨o,e,ex.1⟩,fun a e2 => ?_⟩
   cases e2
   exact ⟨o,e,ex.2.1⟩
 | _ => exact False.elim ty
def tBM (K:PySem.W.Frag) (T:String) (r:V→List V→Hp→VK→Prop) (to:TE) (t:TA):TE:=fun σ H Q => to σ H fun x H1 => tyV K T x H1∧t σ H1 fun xs H2 => r x xs H2 Q
variable {o e:Expr} {es:List Expr} {to:TE} {t:TA} {name:Str} {apos cpos:Pos} {T id:String} {r:V→List V→Hp→VK→Prop}
theorem pe_bm (pa:PlainAttrs T) (slot:Slot T name id) (hty:typeOf (.builtin id) = pure (.type "method_descriptor")) (hm:MtR X id r) (ho:PE X o to) (ha:PA X (e :: es) t)
  (hbase:attributeBase o name X.env (eval o X.env) = eval o X.env:=by rfl)
  (hfew:((backTo cpos (starEach (e :: es) X.env)).all (fun x => !x.1) && (backToKw cpos (keywordEach [] X.env)).all (fun x => x.1.isSome)
   && decide ((e :: es).length + ([]:List Keyword).length + (if ([]:List Keyword).isEmpty then 0 else 1) < 30)) = true:=by rfl)
  (hline:(apos.endLine == cpos.line) = true:=by rfl) (hs:starEach (e :: es) X.env = (false,eval e X.env) :: starEach es X.env:=by rfl) (hplain:(backTo cpos (starEach es X.env)).any (·.1) = false:=by rfl) :
  PE X (.Call (.Attribute o name apos) (e :: es) [] cpos) (tBM X.K T r to t):=by
 intro pins s σ H Q I h
 refine wpAny_Call_method_late hbase hfew hline rfl (Vx (ho pins s σ H _ I h) fun v s1 ⟨x,H1,I1,r1,ty,q1⟩ => ?_)
 obtain ⟨h1,h2⟩:=tyV_is I1 r1 ty
 refine ⟨T,id,pa,slot,hty,h1,h2, ?_⟩
 have hA:=ha cpos pins s1 σ H1 _ I1 q1
 rw [hs] at hA ⊢
 refine Calls.callWith_builtin (by show (false || (backTo cpos (starEach es X.env)).any (·.1)) = false; rw [hplain] <;> rfl) (Calls.evalArgs_plain ?_)
 exact Vx hA fun us s2 ⟨vs,H2,I2,r2,q2⟩ => hm pins s2 σ H2 x vs v us Q I2 r1 r2 q2
end
def MtM (X:Cx) (id:String) (r:V→List V→Hp→VK→Prop):Prop :=
 ∀ (pins:List (Addr × Obj)) (s:Shared) (σ:St) (H:Hp) (x:V) (xs:List V) (v:Value) (us:List Value) (Q:VK),Zn X pins σ H s→Z6 x v→Z1 xs us→r x xs H Q →
  wpAny (model X.prog X.w) X.A (call (.builtin id) (v :: us)) (EP X pins σ Q) X.xe s
theorem Z1.one:∀ {x:V} {us:List Value},Z1 [x] us→∃ u,us = [u]∧Z6 x u
 | _,_,.cons r .nil => ⟨_,rfl,r⟩
theorem Z1.two:∀ {x y:V} {us:List Value},Z1 [x,y] us→∃ u v,us = [u,v]∧Z6 x u∧Z6 y v
 | _,_,_,.cons r (.cons q .nil) => ⟨_,_,rfl,r,q⟩
theorem Z1.zero:∀ {us:List Value},Z1 [] us→us = []
 | _,.nil => rfl
theorem Z1.reverse {xs:List V} {us:List Value} (h:Z1 xs us):Z1 xs.reverse us.reverse:=by
 induction h with
 | nil => exact .nil
 | cons r t ih => rw [List.reverse_cons,List.reverse_cons]; exact Z1.append ih (.cons r .nil)
section
variable {X:Cx} {pins:List (Addr × Obj)} {σ:St} {H:Hp} {s:Shared} {l b:Addr} {xs ys zs:List V}
theorem Zn.lset {its its':List Value} {n:Nat} {f:Array Value→Array Value} {t':Nat} (I:Zn X pins σ H s) (hH:H l = some (.lst xs))
  (e:s.heap.get? l = some { cls:=.type "list",data:=.seq its.toArray n }) (hf:f its.toArray = its'.toArray) (hv:Z1 ys its') (hz:ys.length ≤ sizeLine) :
  Zn X pins σ (Zo H l (.lst ys)) { s with heap:=s.heap.update l (Obj.mapSeq f),toks:=t' }:=by
 have q:=PySem.IsL.update e f
 rw [hf] at q
 refine I.write (x:=l) (e:=l) (by rw [hH]; exact trivial) (.inl rfl) (fun b' u hb hu => (Heap.get?_update_other s.heap (Obj.mapSeq f) (Ne.symm hb)).trans hu) ⟨_,q⟩ ?_
 exact ⟨hz,its',_,hv,q⟩
theorem Zn.lnew {its:List Value} {t':Nat} (I:Zn X pins σ H s) (hv:Z1 ys its) (hz:ys.length ≤ sizeLine) :
  Zn X pins σ (Zo H s.heap.objs.size (.lst ys)) { s with heap:=s.heap.push { cls:=.type "list",data:=.seq its.toArray },toks:=t' } :=
 I.laid (fun _ _ q => Heap.get?_push_of_some _ q) (Nat.le_refl _) ⟨hz,its,0,hv,Heap.get?_push_size _ rfl⟩
theorem Zn.fresh (I:Zn X pins σ H s):H s.heap.objs.size = none:=I.hok.fresh (Nat.le_refl _)
theorem Zn.lstM (I:Zn X pins σ H s) (hH:H l = some (.lst xs)):xs.length ≤ sizeLine∧∃ (its:List Value) (n:Nat),Z1 xs its∧xs.length = its.length∧s.heap.get? l = some { cls:=.type "list",data:=.seq its.toArray n }:=by
 obtain ⟨z,its,n,r,e⟩:=I.hok l _ hH
 exact ⟨z,its,n,r,r.length,e⟩
end
section
variable {X:Cx}
def rAppend:V→List V→Hp→VK→Prop:=fun x vs H Q => ∃ l xs y,x = .ref l∧vs = [y]∧H l = some (.lst xs)∧xs.length < sizeLine∧Q .non (Zo H l (.lst (xs ++ [y])))
theorem mt_append:MtM X "list.append" rAppend:=by
 intro pins s σ H x vs v us Q I rx rv h
 obtain ⟨l,xs,y,rfl,rfl,hH,hz,q⟩:=h
 cases rx
 obtain ⟨u,rfl,ru⟩:=rv.one
 obtain ⟨z,its,n,r,hl,e⟩:=I.lstM hH
 refine call_meets F.slot_list_append ⟨_,e,rfl⟩ F.entry_list_append (F.args_list_append_2 _ _) (PySem.list_append l its.toArray n u (by rw [List.size_toArray]; omega)) ⟨e, ?_⟩
 refine ⟨.non,_,I.lset (its':=its ++ [u]) hH e (by simp) (r.append (.cons ru .nil)) ?_,rfl,q⟩
 rw [List.length_append,List.length_singleton]
 omega
def rCat:R2:=fun x y H Q => ∃ l b xs zs,x = .ref l∧y = .ref b∧H l = some (.lst xs)∧H b = some (.lst zs)∧xs.length + zs.length ≤ sizeLine∧∀ p,H p = none→Q (.ref p) (Zo H p (.lst (xs ++ zs)))
theorem op_cat:OpR X (binaryOp .Add) rCat:=by
 intro pins s σ H x y v u Q I rx ry h
 obtain ⟨l,b,xs,zs,rfl,rfl,hH,hB,hz,q⟩:=h
 cases rx
 cases ry
 obtain ⟨z,its,n,r,hl,e⟩:=I.lstM hH
 obtain ⟨z2,its2,n2,r2,hl2,e2⟩:=I.lstM hB
 refine PySem.P.add_list e e2 ?_ (by rw [List.size_toArray,List.size_toArray]; omega)
 have ea:its.toArray ++ its2.toArray = (its ++ its2).toArray:=by simp
 rw [ea]
 exact ⟨.ref _,_,I.lnew (t':=s.toks) (r.append r2) (by rw [List.length_append]; omega),rfl,q _ I.fresh⟩
end
section
variable {prog:Program} {w:World} {A:Around} {E:Value→Shared→Prop} {s:Shared}
end
section
variable {X:Cx}
end
end L2
namespace Att
open PySem PySem.W PySem.Calls PyProof.Rows
theorem ints_of_wellAll {P:Params} {h:Heap}:∀ (ns:List Int) (vs:List Value),WellAll P h vs (ns.map WData.int)→IntsAre vs ns:=by
 intro ns
 induction ns with
 | nil =>
  intro vs w
  rw [List.map_nil] at w
  cases w
  exact .nil
 | cons n ns ih =>
  intro vs w
  rw [List.map_cons] at w
  cases w with
  | cons a b =>
   cases a
   exact .cons _ _ (ih _ b)
theorem script_of {l:OpenLaw} {n:Nat} (hn:l.most = some n) {P:Params} {h:Heap} {args:List WData} {vals:List Value}
  (hpre:l.row.toRowW.claim.pre args = true) (hwl:WellAll P h vals args) :
  ∃ a vs ns,vals = [Value.ref a]∧args = [WData.list (ns.map WData.int)]∧h.get? a = some { cls:=.type "list",data:=.seq vs.toArray }∧IntsAre vs ns∧ns.length ≤ n:=by
 have hsh:WShape.hasAll [] args [.list .int] = true:=(pre_splitW hpre).1
 have hc:l.pre.holds [] { args:=args } = true:=(pre_splitW hpre).2
 obtain ⟨d,r,rfl,h1,h2⟩:=hasAllW_cons hsh
 obtain rfl:=hasAllW_nil h2
 obtain ⟨xs,rfl,h3⟩:=hasW_list h1
 obtain ⟨ns,rfl⟩:=items_int h3
 have hlen:ns.length ≤ n:=by
  unfold OpenLaw.pre at hc
  have h4:(WTm.not (.lt (.lit (.int (n:Int))) (.len (.arg 0)))).holds [] { args:=[.list (ns.map .int)] } = true:=by
   have h4:=(holds_andW hc).1
   rw [hn] at h4
   exact h4
  have h5:=condW_of h4 (w_not (w_lt w_lit (w_len_list (w_arg rfl))))
  rw [List.length_map] at h5
  refine Nat.le_of_not_lt fun q => ?_
  have q':(n:Int) < ((ns.length:Nat):Int):=by omega
  first
   | (rw [decide_eq_true q'] at h5; exact absurd h5 (by decide))
   | (simp at h5; omega)
 cases hwl with
 | cons w1 w2 =>
  cases w2
  cases w1 with
  | list ho hall => exact ⟨_,_,ns,rfl,rfl,ho,ints_of_wellAll ns _ hall,hlen⟩
theorem post_true (l:OpenLaw) (args:List WData):l.row.toRowW.claim.post args (.bool true) args = true :=
 postW_of (r:=l.row.toRowW) (X:=(true == true))
  (show WShape.has [] (.bool true) .bool = true by first | rfl | decide | simp [WShape.has,WShape.arms,WShape.armsAll])
  (show (WTm.eq .res (.lit (.bool true))).value [] { args:=args,res:=some (.bool true),after:=args } = some (.bool (true == true)) from w_eq_bool (w_res rfl) w_lit) rfl
theorem attach_call {l:OpenLaw} {n:Nat} {q:Program} {loose:List Str} {XP:(Str→Option Value)→Heap→Prop} {YP:World→Heap→Prop} {d:DefRec}
  (hn:l.most = some n) (hdf:d.params.defaults = [])
  (call:∀ (w:World) (s₀ s₁:Shared) (mg mb:Str→Option Value) (fa:Addr) (o:Obj) (pm cd doc:Value) (a:Addr) (vs:List Value) (ns:List Int),
   Ground q loose [] XP w s₀ mg mb s₁.heap→YP w s₁.heap →
   s₁.heap.get? fa = some o→o.data = .func (docDef d.name d.params d.body d.scope pm cd doc)→s₁.heap.CodeRec cd d.name→mg d.name = some (.ref fa) →
   s₁.heap.get? a = some { cls:=.type "list",data:=.seq vs.toArray }→IntsAre vs ns→ns.length ≤ n→s₁.gens = #[] →
   codeAny (model l.prog w) callerA (.call (.ref fa) ⟨[.ref a],[]⟩) (fun r s' => r = .ok (.ret (.bool true))∧OldK s₁.heap s'.heap∧s'.os = s₁.os∧AllBare s'.gens) s₁) :
  WalkO q loose XP YP l.row.toRowW d [] (fun f vs => PySem.call f vs):=by
 intro w s₀ s₁ mg mb G Y fa o pm cd doc dV kV ho hd hcd hD hmg hg args vals as hpre hlay hrd hwl hlo
 obtain rfl:dV = .none:=Dflts.none hD hdf
 obtain rfl:kV = .none:=Dflts.noKw hD
 obtain ⟨a,vs,ns,rfl,rfl,hobj,hints,hlen⟩:=script_of hn hpre hwl
 refine enter_call (codeAny_mono (call w s₀ s₁ mg mb fa o pm cd doc a vs ns G Y ho (fd_plain hd) hcd hmg hobj hints hlen hg) fun r s' hq => ?_)
 obtain ⟨rfl,h2,h3,h4⟩:=hq
 exact ⟨.inl ⟨.bool true,.bool true,[],rfl,fun _ => rfl,.bool true,post_true l _,fun _ => ⟨List.Pairwise.nil,fun _ hm => (nomatch hm)⟩⟩,h2,h3,h4⟩
section
variable {prog:Program} {w:World} {A:Around} {E:Value→Shared→Prop} {s:Shared} {K:Frag}
end
end Att
namespace L2
open PySem PySem.Spec PyProof.Rows
theorem vals_ints:∀ {vs:List Value} {ns:List Int},IntsAre vs ns→Z1 (ns.map V.int) vs
 | _,_,.nil => .nil
 | _,_,.cons n t h => .cons ⟨t,rfl⟩ (vals_ints h)
def Only (H:Hp):Prop:=∀ b,H b = none ∨ ∃ o xs,H b = some (.frz o (.lst xs))
theorem law_call {P:Program} {w:World} {K:PySem.W.Frag} {mg mb:Str→Option Value} {CX:CXT} {k:Nat} {fa a:Addr} {fd:FuncData} {x:Str} {sp:Sp} {s₁:Shared} {vs:List Value} {ns:List Int}
  (KX:K.In s₁.heap) (hns:s₁.heap.Ns mainGlobals mg) (hb:s₁.heap.Ns builtinsNs mb) (hbb:∀ x:Str,x ≠ "__name__" → mb x = bootBuiltins x) (hlim:s₁.heap.NoLimit) (hg:s₁.gens = #[])
  (ha:s₁.heap.get? a = some { cls:=.type "list",data:=.seq vs.toArray }) (hi:IntsAre vs ns) (hl:ns.length ≤ sizeLine) (hr:Vb k callerA)
  (F:∀ base:Heap,K.In base→base.Ns mainGlobals mg→Yd P w K mg base CX k fa fd [x] sp) (hbind:∀ (s:Shared) (u:Value),BindsTo s fd ⟨[u],[]⟩ [(x,u)])
  (hsp:∀ H:Hp,Only H→Yg K H a (ns.map V.int)→sp [.ref a] H (fun v _ => v = .bl true) fun _ _ _ => False)
  (hCX:∀ H e s',CX [] H s₁ (fun _ _ _ => False) e s'→False) :
  codeAny (model P w) callerA (.call (.ref fa) ⟨[.ref a],[]⟩) (fun r s' => r = .ok (.ret (.bool true))∧OldK s₁.heap s'.heap∧s'.os = s₁.os∧AllBare s'.gens) s₁:=by
 have rv:=vals_ints hi
 have lenV:=hi.length
 have core:∀ H:Hp,Only H→Yg K H a (ns.map V.int)→HOk P w H s₁.heap→(∀ b,H b ≠ none→b = a)→(H a ≠ none→K.lookup a = none) →
   codeAny (model P w) callerA (.call (.ref fa) ⟨[.ref a],[]⟩) (fun r s' => r = .ok (.ret (.bool true))∧OldK s₁.heap s'.heap∧s'.os = s₁.os∧AllBare s'.gens) s₁:=by
  intro H hO hS hok hA hK
  have base_of:∀ {b:Addr} {o:Obj},s₁.heap.get? b = some o→H b = none→(hidT s₁.heap H).get? b = some o:=fun e n => hidT_get e n
  have noA:∀ {b:Addr} {o:Obj} {es:Array DictEntry} {ep:Nat},s₁.heap.get? b = some o→o.data = .dict es ep→H b = none:=fun {b o es ep} e d => by
   cases q:H b with
   | none => rfl
   | some u =>
    have e':b = a:=hA b (by rw [q]; simp)
    subst e'
    rw [ha] at e; cases e
    have d':Data.seq vs.toArray _ = Data.dict es ep:=d
    cases d'
  have nsK:∀ {b:Addr} {m:Str→Option Value},s₁.heap.Ns b m→(hidT s₁.heap H).Ns b m:=fun {b m} ⟨o,es,ep,e,d,r⟩ => ⟨o,es,ep,base_of e (noA e d),d,r⟩
  have hKb:K.In (hidT s₁.heap H):=fun b o e => base_of (KX b o e) (by
   cases q:H b with
   | none => rfl
   | some u =>
    have e':b = a:=hA b (by rw [q]; simp)
    subst e'
    rw [hK (by rw [q]; simp)] at e; cases e)
  have hM:Mod K mg (hidT s₁.heap H):=⟨hKb,nsK hns,⟨mb,nsK hb,hbb⟩,let ⟨mc,h1,h2⟩:=hlim; ⟨mc,nsK h1,h2⟩⟩
  have e0:Env0 P w K mg (hidT s₁.heap H) callerA [] s₁ H:=⟨rfl,hM,fun b o e => of_hidT e,Nat.le_of_eq (hidT_size _ _),trivial,fun b hb => absurd (show b ∈ ([]:List Addr) from hb) (by simp),hok,.of_eq hg⟩
  refine codeAny_mono ((F _ hKb (nsK hns)).run callerA [] s₁ H ⟨[.ref a],[]⟩ [.ref a] [.ref a] _ _ hr e0 (hbind s₁ (.ref a)) (.cons rfl .nil) (hsp H hO hS)) fun r s' h => ?_
  cases r with
  | error e => exact (hCX H e s' h).elim
  | ok fl =>
   cases fl with
   | next => exact False.elim h
   | brk => exact False.elim h
   | cont => exact False.elim h
   | ret u =>
    obtain ⟨v,H',os,bare,un,hok',r',q⟩:=h
    have q':v = .bl true:=q
    subst q'
    obtain rfl:u = Value.bool true:=r'
    refine ⟨rfl,OldK.of_keep fun b o e => ?_,os,bare⟩
    cases q:H b with
    | none => exact un.keep b o e q (by intro z; exact absurd (show b ∈ ([]:List Addr) from z) (by simp)) (by simp)
    | some u =>
     rcases hO b with z | ⟨ob,xs,z⟩
     ·rw [q] at z; cases z
     ·have z2:=un.frzs b ob _ z
      obtain ⟨e1,_⟩:=hok b _ z
      obtain ⟨e2,_⟩:=hok' b _ z2
      rw [e] at e1; cases e1
      exact e2
 cases hk:K.lookup a with
 | some o =>
  have e:=KX a o hk
  rw [ha] at e
  cases e
  refine core (fun _ => none) (fun _ => .inl rfl) (.inr ⟨_,vs.toArray,_,hk,rfl,rfl,rfl,by rw [List.size_toArray,lenV]; exact hl,by simpa using rv⟩) (fun b u z => by have z':(none:Option HO) = some u:=z; cases z') (fun b z => absurd rfl z) fun z => absurd rfl z
 | none =>
  refine core (fun b => if b = a then some (.frz { cls:=.type "list",data:=.seq vs.toArray } (.lst (ns.map V.int))) else none) (fun b => ?_) (.inl (.inr ⟨{ cls:=.type "list",data:=.seq vs.toArray },if_pos rfl⟩)) (fun b u z => ?_) (fun b z => ?_) fun _ => hk
  ·by_cases hb:b = a
   ·exact .inr ⟨_,_,if_pos hb⟩
   ·exact .inl (if_neg hb)
  ·by_cases hb:b = a
   ·have z':=(if_pos hb).symm.trans z
    cases z'
    subst hb
    exact ⟨ha,by rw [List.length_map]; exact hl,vs,_,rv,ha⟩
   ·have z':=(if_neg hb).symm.trans z
    cases z'
  ·by_cases hb:b = a
   ·exact hb
   ·exact absurd (if_neg hb) z
theorem walk_of {l:PySem.W.OpenLaw} {n k:Nat} {q:Program} {loose:List Str} {XP:(Str→Option Value)→Heap→Prop} {YP:World→Heap→Prop} {d:DefRec} {K:Params→PySem.W.Frag} {CX:World→CXT} {sp:World→Sp} {x:Str}
  (hn:l.most = some n) (hn2:n ≤ sizeLine) (hdf:d.params.defaults = []) (hr:Vb k callerA)
  (hY:∀ (w:World) (h:Heap),YP w h→(K w.params).In h)
  (F:∀ (w:World) (mg:Str→Option Value) (fa:Addr) (h:Heap),(K w.params).In h→h.Ns mainGlobals mg→mg d.name = some (.ref fa) →
   ∃ fd:FuncData,(∀ (s:Shared) (u:Value),BindsTo s fd ⟨[u],[]⟩ [(x,u)]) ∧
    ∀ base:Heap,(K w.params).In base→base.Ns mainGlobals mg→Yd l.prog w (K w.params) mg base (CX w) k fa fd [x] (sp w))
  (hsp:∀ (w:World) (H:Hp) (a:Addr) (ns:List Int),ns.length ≤ n→Only H→Yg (K w.params) H a (ns.map V.int)→sp w [.ref a] H (fun v _ => v = .bl true) fun _ _ _ => False)
  (hCX:∀ (w:World) (H:Hp) (s:Shared) (e:Value) (s':Shared),CX w [] H s (fun _ _ _ => False) e s'→False) :
  PySem.W.WalkO q loose XP YP l.row.toRowW d [] (fun f vs => PySem.call f vs):=by
 refine Att.attach_call hn hdf fun w s₀ s₁ mg mb fa o pm cd doc a vs ns G Y ho hd hcd hmg hobj hints hlen hg => ?_
 have KX:=hY w _ Y
 obtain ⟨fd,hb,hF⟩:=F w mg fa _ KX G.T.g hmg
 exact law_call KX G.T.g G.T.b G.T.builtins G.T.nolimit hg hobj hints (Nat.le_trans hlen hn2) hr hF hb (fun H hO hS => hsp w H a ns hlen hO hS) fun H e s' => hCX w H s₁ e s'
abbrev CX0:CXT:=fun _ _ _ _ _ _ => False
abbrev E0:XK:=fun _ _ _ => False
theorem pass0 {X:Cx}:Passes CX0 X E0:=fun _ _ _ _ _ _ _ h => h.elim
structure Fun (K:PySem.W.Frag) (x qual:Str) (st:Stmt) (f:Addr) (fd:FuncData):Prop where
 ex:∃ (oc:Value) (od:Option Addr) (kV doc pm:Value) (an:Option Addr) (cdv ct:Value) (osl:Array (Option Value)),
  fd = PySem.W.fnOf x qual (defArgs st) (defBody st) (Zk st) .none kV doc pm an cdv ct∧K.lookup f = some ⟨oc,od,.func fd,osl⟩∧PySem.W.codeIn K cdv qual = true
 kp:PySem.W.keepIn K (.ref f) = true
section
variable {P:Program} {w:World} {K:PySem.W.Frag} {mg:Str→Option Value} {base:Heap}
theorem Fun.ok {x qual:Str} {st:Stmt} {f:Addr} {fd:FuncData} {N ps:List Str} {k:Nat} {sp:Sp} (F:Fun K x qual st f fd) (S:Ze N ps (Zk st)) (len:∀ vs H Q E,sp vs H Q E→vs.length = ps.length)
  (hbody:∀ (cdv:Value) (A:Around) (outer:List Env) (s:Shared) (H:Hp) (vs:List V) (Q:VK) (E:XK),Vb k (A.deeper (envOfC qual (Zk st) s.heap.objs.size f cdv))→sp vs H Q E →
   ∃ t,PSs (cxOf CX0 P w K mg base N qual (Zk st) f cdv A outer s H E).nox (defBody st) t∧t { nx:=fun _ H' => Q .non H',rt:=Q } (start N vs) H):Yd P w K mg base CX0 (k + 1) f fd ps sp:=by
 obtain ⟨oc,od,kV,doc,pm,an,cdv,ct,osl,rfl,lk,hcd⟩:=F.ex
 refine fn_of lk hcd S len fun A outer s H vs Q E hr hsp => ?_
 obtain ⟨t,h,q⟩:=hbody cdv A outer s H vs Q E hr hsp
 exact ⟨t,h.nox,q⟩
theorem Fun.binds {x qual:Str} {st:Stmt} {f:Addr} {fd:FuncData} {ps:List Str} (F:Fun K x qual st f fd)
  (h:∀ (kV doc pm:Value) (an:Option Addr) (cdv ct:Value) (us:List Value),us.length = ps.length→bindArgs (PySem.W.fnOf x qual (defArgs st) (defBody st) (Zk st) .none kV doc pm an cdv ct) ⟨us,[]⟩ = pure (ps.zip us)):Binds K fd ps []:=by
 obtain ⟨oc,od,kV,doc,pm,an,cdv,ct,osl,rfl,lk,hcd⟩:=F.ex
 exact .all (h kV doc pm an cdv ct)
theorem Yq {x qual:Str} {st:Stmt} {f:Addr} {oc:Value} {od an:Option Addr} {osl:Array (Option Value)} {kV doc pm cdv ct:Value} (l:K.lookup f = some ⟨oc,od,.func (PySem.W.fnOf x qual (defArgs st) (defBody st) (Zk st) .none kV doc pm an cdv ct),osl⟩)
  (c:PySem.W.codeIn K cdv qual = true) (k:PySem.W.keepIn K (.ref f) = true):Fun K x qual st f (PySem.W.fnOf x qual (defArgs st) (defBody st) (Zk st) .none kV doc pm an cdv ct):=⟨⟨oc,od,kV,doc,pm,an,cdv,ct,osl,rfl,l,c⟩,k⟩
end
theorem Y7 {n:Nat} (h:n ≤ 1000):n < sizeLine:=Nat.lt_of_le_of_lt h (by decide)
theorem sz (n:Nat) (h:n ≤ sizeLine:=by decide):n ≤ sizeLine:=h
theorem Vb.m {j k:Nat} {A:Around} (r:Vb k A) (h:j ≤ k:=by omega):Vb j A:=r.mono h
section
variable {X:Cx}
theorem pv (i:Nat) {x:Str} {pos:Pos} (hN:X.N[i]? = some x:=by rfl) (hv:Vis X.env.scope x:=by first | exact Or.inl rfl | exact Or.inr (Or.inl rfl) | exact Or.inr (Or.inr rfl)) (hd:(x == ("__debug__" : Str)) = false:=by decide)
  (hcd:(x == ("__classdict__" : Str)) = false:=by decide):PE X (.Name x pos) (tVar i):=pe_var hN hv hd hcd
end
theorem iteF {A B:Prop} (h:B):if false = true then A else B:=by
 rw [if_neg Bool.false_ne_true]
 exact h
theorem iteT {A B:Prop} (h:A):if true = true then A else B:=by
 rw [if_pos rfl]
 exact h
theorem ite2 {c A B:Prop} [Decidable c] (h1:c→A) (h2:¬ c→B):if c then A else B:=by
 by_cases h:c
 ·rw [if_pos h]
  exact h1 h
 ·rw [if_neg h]
  exact h2 h
def Zf (H H':Hp):Prop:=∀ b o,H b = some o→H' b = some o
theorem Zf.refl (H:Hp):Zf H H:=fun _ _ h => h
theorem Zf.trans {H H1 H2:Hp} (a:Zf H H1) (b:Zf H1 H2):Zf H H2:=fun c o h => b c o (a c o h)
theorem Zf.free {H H':Hp} (e:Zf H H') {l:Addr} (h:H' l = Option.none):H l = Option.none:=by
 cases q:H l with
 | none => rfl
 | some o =>
  rw [e l o q] at h
  cases h
theorem Zf.seq {K:PySem.W.Frag} {H H':Hp} {a:Addr} {xs:List V} (e:Zf H H') (h:Yg K H a xs):Yg K H' a xs:=by
 rcases h with (h | ⟨o,h⟩) | h
 ·exact .inl (.inl (e _ _ h))
 ·exact .inl (.inr ⟨o,e _ _ h⟩)
 ·exact .inr h
inductive D where
 | non | bl (b:Bool) | int (i:Int) | str (x:Str) | tup (xs:List D) | lst (xs:List D)
mutual
def Yj (K:PySem.W.Frag) (H:Hp):D→V→Prop
 | .non,v => v = .non
 | .bl b,v => v = .bl b
 | .int i,v => v = .int i
 | .str x,v => v = .str x
 | .tup ds,v => ∃ a vs,v = .ref a∧Z9 K H a vs∧Zm K H ds vs
 | .lst ds,v => ∃ a vs,v = .ref a∧Yg K H a vs∧Zm K H ds vs
def Zm (K:PySem.W.Frag) (H:Hp):List D→List V→Prop
 | [],vs => vs = []
 | d :: ds,vs => ∃ v r,vs = v :: r∧Yj K H d v∧Zm K H ds r
end
mutual
def eqD:D→D→Bool
 | .non,.non => true
 | .bl a,.bl b => a == b
 | .bl a,.int b => (if a then 1 else 0) == b
 | .int a,.bl b => a == (if b then 1 else 0)
 | .int a,.int b => a == b
 | .str a,.str b => a == b
 | .tup xs,.tup ys => eqDs xs ys
 | .lst xs,.lst ys => eqDs xs ys
 | _,_ => false
def eqDs:List D→List D→Bool
 | [],[] => true
 | x :: xs,y :: ys => eqD x y && eqDs xs ys
 | _,_ => false
end
mutual
def dpD:D→Nat
 | .tup xs => dpDs xs + 1
 | .lst xs => dpDs xs + 1
 | _ => 0
def dpDs:List D→Nat
 | [] => 0
 | d :: ds => max (dpD d) (dpDs ds)
end
mutual
theorem eqD_refl:∀ d:D,eqD d d = true
 | .non => rfl
 | .bl b => by simp [eqD]
 | .int b => by simp [eqD]
 | .str b => by simp [eqD]
 | .tup xs => by simp only [eqD]; exact eqDs_refl xs
 | .lst xs => by simp only [eqD]; exact eqDs_refl xs
theorem eqDs_refl:∀ d:List D,eqDs d d = true
 | [] => rfl
 | x :: xs => by simp only [eqDs,eqD_refl x,eqDs_refl xs,Bool.and_self]
end
theorem Zm.length {K:PySem.W.Frag} {H:Hp}:∀ {ds:List D} {vs:List V},Zm K H ds vs→ds.length = vs.length
 | [],vs,h => by
  have e:vs = []:=h
  subst e
  rfl
 | d :: ds,vs,h => by
  obtain ⟨v,r,e,_,h2⟩:=(show ∃ v r,vs = v :: r∧Yj K H d v∧Zm K H ds r from h)
  rw [e,List.length_cons,List.length_cons,Zm.length h2]
theorem Zm.get {K:PySem.W.Frag} {H:Hp}:∀ {ds:List D} {vs:List V} {i:Nat} {d:D},Zm K H ds vs→ds[i]? = some d→∃ v,vs[i]? = some v∧Yj K H d v
 | [],vs,i,d,_,e => by simp at e
 | d :: ds,vs,0,d',h,e => by
  obtain ⟨v,r,rfl,h1,_⟩:=(show ∃ v r,vs = v :: r∧Yj K H d v∧Zm K H ds r from h)
  simp at e; subst e
  exact ⟨v,rfl,h1⟩
 | d :: ds,vs,i + 1,d',h,e => by
  obtain ⟨v,r,rfl,_,h2⟩:=(show ∃ v r,vs = v :: r∧Yj K H d v∧Zm K H ds r from h)
  obtain ⟨v',e1,h3⟩:=Zm.get (i:=i) h2 (by simpa using e)
  exact ⟨v',by simpa using e1,h3⟩
theorem dpDs_mem:∀ {ds:List D} {d:D},d ∈ ds→dpD d ≤ dpDs ds
 | d :: ds,d',h => by
  simp only [dpDs]
  rcases List.mem_cons.mp h with e | h
  ·subst e; omega
  ·have:=dpDs_mem h; omega
theorem all_eqDs:∀ ds es:List D,((List.range (min ds.length es.length)).all (fun j => eqD (ds.getD j .non) (es.getD j .non)) && ds.length == es.length) = eqDs ds es
 | [],[] => rfl
 | [],e :: es => by simp [eqDs]
 | d :: ds,[] => by simp [eqDs]
 | d :: ds,e :: es => by
  have ih:=all_eqDs ds es
  have e1:min (d :: ds).length (e :: es).length = min ds.length es.length + 1:=by simp only [List.length_cons]; omega
  rw [e1,List.range_succ_eq_map]
  simp only [List.all_cons,List.all_map,eqDs, ← ih,List.length_cons,List.getD_cons_zero]
  have e2:((ds.length + 1 == es.length + 1):Bool) = (ds.length == es.length):=by
   rw [Bool.eq_iff_iff]; simp
  rw [e2,Bool.and_assoc]
  rfl
section
variable {X:Cx} {pins:List (Addr × Obj)} {σ:St} {H:Hp} {s:Shared}
theorem Zn.not_both (I:Zn X pins σ H s) {a:Addr} {xs ys:List V} (h:Yg X.K H a xs) (h':Z9 X.K H a ys):False:=by
 obtain ⟨its,r,⟨o,n,e,c,_⟩,_⟩:=I.list h
 obtain ⟨its',r',⟨o',e',c',_⟩,_⟩:=I.tuple h'
 rw [e] at e'; cases e'
 rw [c] at c'
 injection c' with c''
 exact absurd c'' (by decide)
mutual
theorem Yj.inj (I:Zn X pins σ H s):∀ (d e:D) (v:V),Yj X.K H d v→Yj X.K H e v→d = e
 | .non,e,v,h,h' => by
  have q:v = .non:=h
  subst q
  cases e with
  | non => rfl
  | tup _ => obtain ⟨_,_,z,_⟩:=h'; cases z
  | lst _ => obtain ⟨_,_,z,_⟩:=h'; cases z
  | _ => cases (show V.non = _ from h')
 | .bl b,e,v,h,h' => by
  have q:v = .bl b:=h
  subst q
  cases e with
  | bl c => cases (show V.bl b = V.bl c from h'); rfl
  | tup _ => obtain ⟨_,_,z,_⟩:=h'; cases z
  | lst _ => obtain ⟨_,_,z,_⟩:=h'; cases z
  | _ => cases (show V.bl b = _ from h')
 | .int b,e,v,h,h' => by
  have q:v = .int b:=h
  subst q
  cases e with
  | int c => cases (show V.int b = V.int c from h'); rfl
  | tup _ => obtain ⟨_,_,z,_⟩:=h'; cases z
  | lst _ => obtain ⟨_,_,z,_⟩:=h'; cases z
  | _ => cases (show V.int b = _ from h')
 | .str b,e,v,h,h' => by
  have q:v = .str b:=h
  subst q
  cases e with
  | str c => cases (show V.str b = V.str c from h'); rfl
  | tup _ => obtain ⟨_,_,z,_⟩:=h'; cases z
  | lst _ => obtain ⟨_,_,z,_⟩:=h'; cases z
  | _ => cases (show V.str b = _ from h')
 | .tup ds,e,v,h,h' => by
  obtain ⟨a,vs,rfl,q,ar⟩:=(show ∃ a vs,v = .ref a∧Z9 X.K H a vs∧Zm X.K H ds vs from h)
  cases e with
  | tup es =>
   obtain ⟨a',ws,z,q',ar'⟩:=(show ∃ a' vs,V.ref a = .ref a'∧Z9 X.K H a' vs∧Zm X.K H es vs from h')
   cases z
   have e:=I.tuple_inj q q'
   subst e
   rw [Zm.inj I ds es vs ar ar']
  | lst es =>
   obtain ⟨a',ws,z,q',ar'⟩:=(show ∃ a' vs,V.ref a = .ref a'∧Yg X.K H a' vs∧Zm X.K H es vs from h')
   cases z
   exact (I.not_both q' q).elim
  | non => cases (show V.ref a = _ from h')
  | bl _ => cases (show V.ref a = _ from h')
  | int _ => cases (show V.ref a = _ from h')
  | str _ => cases (show V.ref a = _ from h')
 | .lst ds,e,v,h,h' => by
  obtain ⟨a,vs,rfl,q,ar⟩:=(show ∃ a vs,v = .ref a∧Yg X.K H a vs∧Zm X.K H ds vs from h)
  cases e with
  | lst es =>
   obtain ⟨a',ws,z,q',ar'⟩:=(show ∃ a' vs,V.ref a = .ref a'∧Yg X.K H a' vs∧Zm X.K H es vs from h')
   cases z
   have e:=I.list_inj q q'
   subst e
   rw [Zm.inj I ds es vs ar ar']
  | tup es =>
   obtain ⟨a',ws,z,q',ar'⟩:=(show ∃ a' vs,V.ref a = .ref a'∧Z9 X.K H a' vs∧Zm X.K H es vs from h')
   cases z
   exact (I.not_both q q').elim
  | non => cases (show V.ref a = _ from h')
  | bl _ => cases (show V.ref a = _ from h')
  | int _ => cases (show V.ref a = _ from h')
  | str _ => cases (show V.ref a = _ from h')
theorem Zm.inj (I:Zn X pins σ H s):∀ (ds es:List D) (vs:List V),Zm X.K H ds vs→Zm X.K H es vs→ds = es
 | [],es,vs,h,h' => by
  have q:vs = []:=h
  subst q
  cases es with
  | nil => rfl
  | cons e es => obtain ⟨_,_,z,_⟩:=h'; cases z
 | d :: ds,es,vs,h,h' => by
  obtain ⟨v,r,rfl,h1,h2⟩:=(show ∃ v r,vs = v :: r∧Yj X.K H d v∧Zm X.K H ds r from h)
  cases es with
  | nil => cases (show v :: r = [] from h')
  | cons e es =>
   obtain ⟨v',r',z,h1',h2'⟩:=(show ∃ v' r',v :: r = v' :: r'∧Yj X.K H e v'∧Zm X.K H es r' from h')
   cases z
   rw [Yj.inj I d e v h1 h1',Zm.inj I ds es r h2 h2']
end
def flD:D→Option V
 | .non => some .non
 | .bl b => some (.bl b)
 | .int i => some (.int i)
 | .str x => some (.str x)
 | _ => none
theorem Yj.flat {K:PySem.W.Frag} {d:D} {x v:V} (e:flD d = some x) (h:Yj K H d v):v = x∧flatV x = true:=by
 cases d with
 | non => cases e; exact ⟨h,rfl⟩
 | bl b => cases e; exact ⟨h,rfl⟩
 | int i => cases e; exact ⟨h,rfl⟩
 | str q => cases e; exact ⟨h,rfl⟩
 | tup q => cases e
 | lst q => cases e
theorem flD_cases {d:D} {x:V} (h:flD d = some x):(d = .non∧x = .non) ∨ (∃ b,d = .bl b∧x = .bl b) ∨ (∃ i,d = .int i∧x = .int i) ∨ ∃ q,d = .str q∧x = .str q:=by
 cases d with
 | non => cases h; exact .inl ⟨rfl,rfl⟩
 | bl b => cases h; exact .inr (.inl ⟨b,rfl,rfl⟩)
 | int i => cases h; exact .inr (.inr (.inl ⟨i,rfl,rfl⟩))
 | str q => cases h; exact .inr (.inr (.inr ⟨q,rfl,rfl⟩))
 | tup q => cases h
 | lst q => cases h
theorem eqD_flat {d e:D} {x y:V} (h:flD d = some x) (h':flD e = some y):eqD d e = eqV x y:=by
 rcases flD_cases h with ⟨rfl,rfl⟩ | ⟨_,rfl,rfl⟩ | ⟨_,rfl,rfl⟩ | ⟨_,rfl,rfl⟩ <;> rcases flD_cases h' with ⟨rfl,rfl⟩ | ⟨_,rfl,rfl⟩ | ⟨_,rfl,rfl⟩ | ⟨_,rfl,rfl⟩ <;> rfl
theorem Vn {xs:List V} {us:List Value} (r:Z1 xs us) {j:Nat} (h:j < us.length) {x:V} (e:xs[j]? = some x):Z6 x us[j]:=by
 obtain ⟨u,e1,q⟩:=r.get e
 rw [List.getElem?_eq_getElem h] at e1
 cases e1
 exact q
theorem eqAt_fT {es:List D} {a:Addr} {x:V} {u:Value} {A:Around} {its:Array Value} {d:D} (h:flD d = some x) (rx:Z6 x u) (ht:IsTup s.heap a its) (hu2:A.units < cLine):SeqAt.EqAt A s u (.ref a) (eqD d (.tup es)):=by
 rcases flD_cases h with ⟨rfl,rfl⟩ | ⟨b,rfl,rfl⟩ | ⟨b,rfl,rfl⟩ | ⟨b,rfl,rfl⟩
 ·cases rx; exact SeqAt.EqAt.none_tuple ht hu2
 ·cases rx; exact SeqAt.EqAt.bool_tuple b ht hu2
 ·obtain ⟨t,rfl⟩:=rx; exact SeqAt.EqAt.int_tuple b t ht hu2
 ·obtain ⟨t,rfl⟩:=rx; exact SeqAt.EqAt.str_tuple b t ht hu2
theorem eqAt_fL {es:List D} {a:Addr} {x:V} {u:Value} {A:Around} {its:Array Value} {d:D} (h:flD d = some x) (rx:Z6 x u) (ht:s.heap.IsList a its) (hu2:A.units < cLine):SeqAt.EqAt A s u (.ref a) (eqD d (.lst es)):=by
 rcases flD_cases h with ⟨rfl,rfl⟩ | ⟨b,rfl,rfl⟩ | ⟨b,rfl,rfl⟩ | ⟨b,rfl,rfl⟩
 ·cases rx; exact SeqAt.EqAt.none_list ht hu2
 ·cases rx; exact SeqAt.EqAt.bool_list b ht hu2
 ·obtain ⟨t,rfl⟩:=rx; exact SeqAt.EqAt.int_list b t ht hu2
 ·obtain ⟨t,rfl⟩:=rx; exact SeqAt.EqAt.str_list b t ht hu2
theorem eqAt_Tf {es:List D} {a:Addr} {x:V} {u:Value} {A:Around} {its:Array Value} {d:D} (h:flD d = some x) (rx:Z6 x u) (ht:IsTup s.heap a its) (hu2:A.units < cLine):SeqAt.EqAt A s (.ref a) u (eqD (.tup es) d):=by
 rcases flD_cases h with ⟨rfl,rfl⟩ | ⟨b,rfl,rfl⟩ | ⟨b,rfl,rfl⟩ | ⟨b,rfl,rfl⟩
 ·cases rx; exact SeqAt.EqAt.tuple_none ht hu2
 ·cases rx; exact SeqAt.EqAt.tuple_bool b ht hu2
 ·obtain ⟨t,rfl⟩:=rx; exact SeqAt.EqAt.tuple_int b t ht hu2
 ·obtain ⟨t,rfl⟩:=rx; exact SeqAt.EqAt.tuple_str b t ht hu2
theorem eqAt_Lf {es:List D} {a:Addr} {x:V} {u:Value} {A:Around} {its:Array Value} {d:D} (h:flD d = some x) (rx:Z6 x u) (ht:s.heap.IsList a its) (hu2:A.units < cLine):SeqAt.EqAt A s (.ref a) u (eqD (.lst es) d):=by
 rcases flD_cases h with ⟨rfl,rfl⟩ | ⟨b,rfl,rfl⟩ | ⟨b,rfl,rfl⟩ | ⟨b,rfl,rfl⟩
 ·cases rx; exact SeqAt.EqAt.list_none ht hu2
 ·cases rx; exact SeqAt.EqAt.list_bool b ht hu2
 ·obtain ⟨t,rfl⟩:=rx; exact SeqAt.EqAt.list_int b t ht hu2
 ·obtain ⟨t,rfl⟩:=rx; exact SeqAt.EqAt.list_str b t ht hu2
theorem flD_none {d:D} (h:flD d = none):(∃ ds,d = .tup ds) ∨ ∃ ds,d = .lst ds:=by
 cases d with
 | non => cases h
 | bl b => cases h
 | int i => cases h
 | str q => cases h
 | tup q => exact .inl ⟨q,rfl⟩
 | lst q => exact .inr ⟨q,rfl⟩
def EqIn (A:Around) (s:Shared) (K:PySem.W.Frag) (H:Hp) (ds:List D):Prop:=∀ d ∈ ds,∀ (e:D) (x y:V) (u v:Value),Yj K H d x→Yj K H e y→Z6 x u→Z6 y v→SeqAt.EqAt A s u v (eqD d e)
theorem EqIn.at {A:Around} {K:PySem.W.Frag} {ds es:List D} {vs vs':List V} {its its':List Value} (E:EqIn A s K H ds) (ar:Zm K H ds vs) (ar':Zm K H es vs') (r:Z1 vs its) (r':Z1 vs' its') {j:Nat} (h1:j < its.toArray.size) (h2:j < its'.toArray.size) (j1:j < ds.length) (j2:j < es.length) :
  SeqAt.EqAt A s its.toArray[j] its'.toArray[j] (eqD (ds.getD j .non) (es.getD j .non)):=by
 obtain ⟨x1,g1,i1⟩:=ar.get (List.getElem?_eq_getElem j1)
 obtain ⟨y1,g2,i2⟩:=ar'.get (List.getElem?_eq_getElem j2)
 have d1:ds.getD j .non = ds[j]:=by simp [j1]
 have d2:es.getD j .non = es[j]:=by simp [j2]
 rw [d1,d2]
 exact E _ (List.getElem_mem j1) _ x1 y1 _ _ i1 i2 (Vn r (by simpa using h1) g1) (Vn r' (by simpa using h2) g2)
theorem eqAt_TT (I:Zn X pins σ H s) {ds es:List D} {a a':Addr} {vs vs':List V} {A:Around} (q:Z9 X.K H a vs) (ar:Zm X.K H ds vs) (q':Z9 X.K H a' vs') (ar':Zm X.K H es vs') (hne:a ≠ a') (E:EqIn A.in1 s X.K H ds) (hu2:A.units < cLine) :
  SeqAt.EqAt A s (.ref a) (.ref a') (eqD (.tup ds) (.tup es)):=by
 obtain ⟨its,r,ht,_⟩:=I.tuple q
 obtain ⟨its',r',ht',_⟩:=I.tuple q'
 have l1:its.toArray.size = ds.length:=by rw [List.size_toArray, ← r.length, ← ar.length]
 have l2:its'.toArray.size = es.length:=by rw [List.size_toArray, ← r'.length, ← ar'.length]
 have main:=SeqAt.RcAt.tuples (A:=A) (e:=fun j => eqD (ds.getD j .non) (es.getD j .non)) ht ht' hu2 (fun j h1 h2 => E.at ar ar' r r' h1 h2 (by omega) (by omega))
 rw [l1,l2,all_eqDs] at main
 exact SeqAt.EqAt.of_refs hne main
theorem eqAt_LL (I:Zn X pins σ H s) {ds es:List D} {a a':Addr} {vs vs':List V} {A:Around} (q:Yg X.K H a vs) (ar:Zm X.K H ds vs) (q':Yg X.K H a' vs') (ar':Zm X.K H es vs') (hne:a ≠ a') (E:EqIn A.in1 s X.K H ds) (hu2:A.units < cLine) :
  SeqAt.EqAt A s (.ref a) (.ref a') (eqD (.lst ds) (.lst es)):=by
 obtain ⟨its,r,hp,_⟩:=I.list q
 obtain ⟨its',r',hp',_⟩:=I.list q'
 have l1:its.toArray.size = ds.length:=by rw [List.size_toArray, ← r.length, ← ar.length]
 have l2:its'.toArray.size = es.length:=by rw [List.size_toArray, ← r'.length, ← ar'.length]
 by_cases hl:ds.length = es.length
 ·have main:=SeqAt.RcAt.lists (A:=A) (e:=fun j => eqD (ds.getD j .non) (es.getD j .non)) hp.isList hp'.isList (by omega) hu2 (fun j h1 h2 => E.at ar ar' r r' h1 h2 (by omega) (by omega))
  have al:=all_eqDs ds es
  rw [← hl,Nat.min_self,beq_self_eq_true,Bool.and_true] at al
  rw [l1,al] at main
  exact SeqAt.EqAt.of_refs hne main
 ·have main:=SeqAt.RcAt.lists_lengths (A:=A) hp.isList hp'.isList (by rw [l1,l2]; simpa using hl) hu2
  have al:=all_eqDs ds es
  have hf:(ds.length == es.length) = false:=by simpa using hl
  rw [hf,Bool.and_false] at al
  have z:eqD (D.lst ds) (D.lst es) = eqDs ds es:=by simp only [eqD]
  rw [z, ← al]
  exact SeqAt.EqAt.of_refs hne main
theorem eqAt_refs (I:Zn X pins σ H s) {d e:D} {x y:V} {u v:Value} {A:Around} (hfd:flD d = none) (hfe:flD e = none) (hd:Yj X.K H d x) (he:Yj X.K H e y) (rx:Z6 x u) (ry:Z6 y v) (E:∀ ds,d = .tup ds ∨ d = .lst ds→EqIn A.in1 s X.K H ds) (hu2:A.units < cLine) :
  SeqAt.EqAt A s u v (eqD d e):=by
 by_cases hxy:x = y
 ·subst hxy
  have ee:=Yj.inj I d e x hd he
  subst ee
  rw [eqD_refl]
  have uv:u = v:=by
   rcases flD_none hfd with ⟨ds,rfl⟩ | ⟨ds,rfl⟩
   ·obtain ⟨a,_,rfl,_⟩:=hd; cases rx; cases ry; rfl
   ·obtain ⟨a,_,rfl,_⟩:=hd; cases rx; cases ry; rfl
  subst uv
  exact SeqAt.EqAt.same _
 ·rcases flD_none hfd with ⟨ds,rfl⟩ | ⟨ds,rfl⟩
  ·obtain ⟨a,vs,rfl,q,ar⟩:=hd
   cases rx
   rcases flD_none hfe with ⟨es,rfl⟩ | ⟨es,rfl⟩
   ·obtain ⟨a',vs',rfl,q',ar'⟩:=he
    cases ry
    exact eqAt_TT I q ar q' ar' (fun z => hxy (by rw [z])) (E ds (.inl rfl)) hu2
   ·obtain ⟨a',vs',rfl,q',ar'⟩:=he
    cases ry
    obtain ⟨_,_,ht,_⟩:=I.tuple q
    obtain ⟨_,_,hp',_⟩:=I.list q'
    exact SeqAt.EqAt.tuple_list ht hp'.isList hu2
  ·obtain ⟨a,vs,rfl,q,ar⟩:=hd
   cases rx
   rcases flD_none hfe with ⟨es,rfl⟩ | ⟨es,rfl⟩
   ·obtain ⟨a',vs',rfl,q',ar'⟩:=he
    cases ry
    obtain ⟨_,_,hp,_⟩:=I.list q
    obtain ⟨_,_,ht',_⟩:=I.tuple q'
    exact SeqAt.EqAt.list_tuple hp.isList ht' hu2
   ·obtain ⟨a',vs',rfl,q',ar'⟩:=he
    cases ry
    exact eqAt_LL I q ar q' ar' (fun z => hxy (by rw [z])) (E ds (.inr rfl)) hu2
theorem eqAt_step (I:Zn X pins σ H s) {d e:D} {x y:V} {u v:Value} {A:Around} (hd:Yj X.K H d x) (he:Yj X.K H e y) (rx:Z6 x u) (ry:Z6 y v) (E:∀ ds,d = .tup ds ∨ d = .lst ds→EqIn A.in1 s X.K H ds) (hu2:A.units < cLine) :
  SeqAt.EqAt A s u v (eqD d e):=by
 cases hfd:flD d with
 | some x' =>
  obtain ⟨rfl,fx⟩:=Yj.flat hfd hd
  cases hfe:flD e with
  | some y' =>
   obtain ⟨rfl,fy⟩:=Yj.flat hfe he
   rw [eqD_flat hfd hfe]
   exact eqAt_V rx ry fx fy
  | none =>
   rcases flD_none hfe with ⟨es,rfl⟩ | ⟨es,rfl⟩
   ·obtain ⟨a,vs,rfl,q,_⟩:=he
    cases ry
    obtain ⟨its,_,ht,_⟩:=I.tuple q
    exact eqAt_fT hfd rx ht hu2
   ·obtain ⟨a,vs,rfl,q,_⟩:=he
    cases ry
    obtain ⟨its,_,hp,_⟩:=I.list q
    exact eqAt_fL hfd rx hp.isList hu2
 | none =>
  cases hfe:flD e with
  | some y' =>
   obtain ⟨rfl,fy⟩:=Yj.flat hfe he
   rcases flD_none hfd with ⟨es,rfl⟩ | ⟨es,rfl⟩
   ·obtain ⟨a,vs,rfl,q,_⟩:=hd
    cases rx
    obtain ⟨its,_,ht,_⟩:=I.tuple q
    exact eqAt_Tf hfe ry ht hu2
   ·obtain ⟨a,vs,rfl,q,_⟩:=hd
    cases rx
    obtain ⟨its,_,hp,_⟩:=I.list q
    exact eqAt_Lf hfe ry hp.isList hu2
  | none => exact eqAt_refs I hfd hfe hd he rx ry E hu2
theorem dpD_parts {d:D} {ds:List D} (h:d = .tup ds ∨ d = .lst ds) {c:D} (m:c ∈ ds):dpD c + 1 ≤ dpD d:=by
 have:=dpDs_mem m
 rcases h with rfl | rfl
 ·have z:dpD (D.tup ds) = dpDs ds + 1:=by simp only [dpD]
  omega
 ·have z:dpD (D.lst ds) = dpDs ds + 1:=by simp only [dpD]
  omega
theorem eqAt_Dn (I:Zn X pins σ H s) (n:Nat):∀ (A:Around) (d e:D) (x y:V) (u v:Value),dpD d < n→Yj X.K H d x→Yj X.K H e y→Z6 x u→Z6 y v→A.units + dpD d < cLine→SeqAt.EqAt A s u v (eqD d e):=by
 induction n with
 | zero => intro A d e x y u v h; exact absurd h (Nat.not_lt_zero _)
 | succ n ih =>
  intro A d e x y u v h hd he rx ry hu
  refine eqAt_step I hd he rx ry (fun ds hds c hc e' x' y' u' v' h1 h2 r1 r2 => ?_) (by omega)
  have hp:=dpD_parts hds hc
  refine ih A.in1 c e' x' y' u' v' (by omega) h1 h2 r1 r2 ?_
  show A.units + 1 + dpD c < cLine
  omega
theorem eqAt_D (I:Zn X pins σ H s) (d e:D) (x y:V) (u v:Value) (A:Around) (hd:Yj X.K H d x) (he:Yj X.K H e y) (rx:Z6 x u) (ry:Z6 y v) (hu:A.units + dpD d < cLine) (hu2:A.units < cLine) :
  SeqAt.EqAt A s u v (eqD d e):=eqAt_Dn I (dpD d + 1) A d e x y u v (Nat.lt_succ_self _) hd he rx ry hu
end
theorem rcEq_V {A:Around} {s:Shared} {y x:V} {u v:Value} (ry:Z6 y u) (rx:Z6 x v) (fy:flatV y = true) (fx:flatV x = true):SeqAt.RcAt A s u v ((eqV y x)):=by
 cases y with
 | non =>
  cases ry
  cases x with
  | non => cases rx; exact SeqAt.RcAt.none_none
  | bl b => cases rx; exact SeqAt.RcAt.none_bool b
  | int b => obtain ⟨t,rfl⟩:=rx; exact SeqAt.RcAt.none_int b t
  | str b => obtain ⟨t,rfl⟩:=rx; exact SeqAt.RcAt.none_str b t
  | _ => exact absurd (show false = true from fx) Bool.false_ne_true
 | bl a =>
  cases ry
  cases x with
  | non => cases rx; exact SeqAt.RcAt.bool_none a
  | bl b => cases rx; exact SeqAt.RcAt.bool_bool a b
  | int b => obtain ⟨t,rfl⟩:=rx; exact SeqAt.RcAt.bool_int a b t
  | str b => obtain ⟨t,rfl⟩:=rx; exact SeqAt.RcAt.bool_str a b t
  | _ => exact absurd (show false = true from fx) Bool.false_ne_true
 | int a =>
  obtain ⟨t',rfl⟩:=ry
  cases x with
  | non => cases rx; exact SeqAt.RcAt.int_none a t'
  | bl b => cases rx; exact SeqAt.RcAt.int_bool a t' b
  | int b => obtain ⟨t,rfl⟩:=rx; exact SeqAt.RcAt.int_int a t' b t
  | str b => obtain ⟨t,rfl⟩:=rx; exact SeqAt.RcAt.int_str a t' b t
  | _ => exact absurd (show false = true from fx) Bool.false_ne_true
 | str a =>
  obtain ⟨t',rfl⟩:=ry
  cases x with
  | non => cases rx; exact SeqAt.RcAt.str_none a t'
  | bl b => cases rx; exact SeqAt.RcAt.str_bool a t' b
  | int b => obtain ⟨t,rfl⟩:=rx; exact SeqAt.RcAt.str_int a t' b t
  | str b => obtain ⟨t,rfl⟩:=rx; exact SeqAt.RcAt.str_str a t' b t
  | _ => exact absurd (show false = true from fx) Bool.false_ne_true
 | _ => exact absurd (show false = true from fy) Bool.false_ne_true
theorem rcEq_D {X:Cx} {pins:List (Addr × Obj)} {σ:St} {H:Hp} {s:Shared} (I:Zn X pins σ H s) (d e:D) (x y:V) (u v:Value) (A:Around) (hd:Yj X.K H d x) (he:Yj X.K H e y) (rx:Z6 x u) (ry:Z6 y v) (hu:A.units + dpD d < cLine) (hu2:A.units < cLine) :
  SeqAt.RcAt A s u v ((eqD d e)):=by
 cases hfd:flD d with
 | some x' =>
  obtain ⟨rfl,fx⟩:=Yj.flat hfd hd
  cases hfe:flD e with
  | some y' =>
   obtain ⟨rfl,fy⟩:=Yj.flat hfe he
   rw [eqD_flat hfd hfe]
   exact rcEq_V rx ry fx fy
  | none =>
   cases e with
   | tup es =>
    obtain ⟨a,vs,rfl,q,_⟩:=he
    cases ry
    obtain ⟨its,_,ht,_⟩:=I.tuple q
    cases d with
    | non => cases hfd; cases rx; exact SeqAt.RcAt.none_tuple ht hu2
    | bl b => cases hfd; cases rx; exact SeqAt.RcAt.bool_tuple b ht hu2
    | int b => cases hfd; obtain ⟨t,rfl⟩:=rx; exact SeqAt.RcAt.int_tuple b t ht hu2
    | str b => cases hfd; obtain ⟨t,rfl⟩:=rx; exact SeqAt.RcAt.str_tuple b t ht hu2
    | tup _ => cases hfd
    | lst _ => cases hfd
   | lst es =>
    obtain ⟨a,vs,rfl,q,_⟩:=he
    cases ry
    obtain ⟨its,_,hp,_⟩:=I.list q
    have ht:=hp.isList
    cases d with
    | non => cases hfd; cases rx; exact SeqAt.RcAt.none_list ht hu2
    | bl b => cases hfd; cases rx; exact SeqAt.RcAt.bool_list b ht hu2
    | int b => cases hfd; obtain ⟨t,rfl⟩:=rx; exact SeqAt.RcAt.int_list b t ht hu2
    | str b => cases hfd; obtain ⟨t,rfl⟩:=rx; exact SeqAt.RcAt.str_list b t ht hu2
    | tup _ => cases hfd
    | lst _ => cases hfd
   | non => cases hfe
   | bl _ => cases hfe
   | int _ => cases hfe
   | str _ => cases hfe
 | none =>
  cases hfe:flD e with
  | some y' =>
   obtain ⟨rfl,fy⟩:=Yj.flat hfe he
   cases d with
   | tup es =>
    obtain ⟨a,vs,rfl,q,_⟩:=hd
    cases rx
    obtain ⟨its,_,ht,_⟩:=I.tuple q
    cases e with
    | non => cases hfe; cases ry; exact SeqAt.RcAt.tuple_none ht hu2
    | bl b => cases hfe; cases ry; exact SeqAt.RcAt.tuple_bool b ht hu2
    | int b => cases hfe; obtain ⟨t,rfl⟩:=ry; exact SeqAt.RcAt.tuple_int b t ht hu2
    | str b => cases hfe; obtain ⟨t,rfl⟩:=ry; exact SeqAt.RcAt.tuple_str b t ht hu2
    | tup _ => cases hfe
    | lst _ => cases hfe
   | lst es =>
    obtain ⟨a,vs,rfl,q,_⟩:=hd
    cases rx
    obtain ⟨its,_,hp,_⟩:=I.list q
    have ht:=hp.isList
    cases e with
    | non => cases hfe; cases ry; exact SeqAt.RcAt.list_none ht hu2
    | bl b => cases hfe; cases ry; exact SeqAt.RcAt.list_bool b ht hu2
    | int b => cases hfe; obtain ⟨t,rfl⟩:=ry; exact SeqAt.RcAt.list_int b t ht hu2
    | str b => cases hfe; obtain ⟨t,rfl⟩:=ry; exact SeqAt.RcAt.list_str b t ht hu2
    | tup _ => cases hfe
    | lst _ => cases hfe
   | non => cases hfd
   | bl _ => cases hfd
   | int _ => cases hfd
   | str _ => cases hfd
  | none =>
   cases d with
   | tup ds =>
    obtain ⟨a,vs,rfl,q,ar⟩:=hd
    cases rx
    obtain ⟨its,r,ht,_⟩:=I.tuple q
    cases e with
    | tup es =>
     obtain ⟨a',vs',rfl,q',ar'⟩:=he
     cases ry
     obtain ⟨its',r',ht',_⟩:=I.tuple q'
     have l1:its.toArray.size = ds.length:=by rw [List.size_toArray, ← r.length, ← ar.length]
     have l2:its'.toArray.size = es.length:=by rw [List.size_toArray, ← r'.length, ← ar'.length]
     have main:=SeqAt.RcAt.tuples (A:=A) (e:=fun j => eqD (ds.getD j .non) (es.getD j .non)) ht ht' hu2 (fun j h1 h2 => by
       have j1:j < ds.length:=by omega
       have j2:j < es.length:=by omega
       have e1:ds[j]? = some ds[j]:=List.getElem?_eq_getElem j1
       have e2:es[j]? = some es[j]:=List.getElem?_eq_getElem j2
       obtain ⟨x1,g1,i1⟩:=ar.get e1
       obtain ⟨y1,g2,i2⟩:=ar'.get e2
       have d1:ds.getD j .non = ds[j]:=by simp [j1]
       have d2:es.getD j .non = es[j]:=by simp [j2]
       show SeqAt.EqAt A.in1 s _ _ (eqD (ds.getD j .non) (es.getD j .non))
       rw [d1,d2]
       have hm:=dpDs_mem (List.getElem_mem j1)
       have z1:dpD (D.tup ds) = dpDs ds + 1:=by simp only [dpD]
       refine eqAt_D I ds[j] es[j] x1 y1 _ _ A.in1 i1 i2 (Vn r (by simpa using h1) g1) (Vn r' (by simpa using h2) g2) ?_ ?_
       ·show A.units + 1 + dpD ds[j] < cLine
        omega
       ·show A.units + 1 < cLine
        omega)
     rw [l1,l2,all_eqDs] at main
     exact main
    | lst es =>
     obtain ⟨a',vs',rfl,q',ar'⟩:=he
     cases ry
     obtain ⟨its',r',hp',_⟩:=I.list q'
     exact SeqAt.RcAt.tuple_list ht hp'.isList hu2
    | non => cases hfe
    | bl _ => cases hfe
    | int _ => cases hfe
    | str _ => cases hfe
   | lst ds =>
    obtain ⟨a,vs,rfl,q,ar⟩:=hd
    cases rx
    obtain ⟨its,r,hp,_⟩:=I.list q
    have ht:=hp.isList
    cases e with
    | lst es =>
     obtain ⟨a',vs',rfl,q',ar'⟩:=he
     cases ry
     obtain ⟨its',r',hp',_⟩:=I.list q'
     have ht':=hp'.isList
     have l1:its.toArray.size = ds.length:=by rw [List.size_toArray, ← r.length, ← ar.length]
     have l2:its'.toArray.size = es.length:=by rw [List.size_toArray, ← r'.length, ← ar'.length]
     by_cases hl:ds.length = es.length
     ·have main:=SeqAt.RcAt.lists (A:=A) (e:=fun j => eqD (ds.getD j .non) (es.getD j .non)) ht ht' (by omega) hu2 (fun j h1 h2 => by
       have j1:j < ds.length:=by omega
       have j2:j < es.length:=by omega
       have e1:ds[j]? = some ds[j]:=List.getElem?_eq_getElem j1
       have e2:es[j]? = some es[j]:=List.getElem?_eq_getElem j2
       obtain ⟨x1,g1,i1⟩:=ar.get e1
       obtain ⟨y1,g2,i2⟩:=ar'.get e2
       have d1:ds.getD j .non = ds[j]:=by simp [j1]
       have d2:es.getD j .non = es[j]:=by simp [j2]
       show SeqAt.EqAt A.in1 s _ _ (eqD (ds.getD j .non) (es.getD j .non))
       rw [d1,d2]
       have hm:=dpDs_mem (List.getElem_mem j1)
       have z1:dpD (D.lst ds) = dpDs ds + 1:=by simp only [dpD]
       refine eqAt_D I ds[j] es[j] x1 y1 _ _ A.in1 i1 i2 (Vn r (by simpa using h1) g1) (Vn r' (by simpa using h2) g2) ?_ ?_
       ·show A.units + 1 + dpD ds[j] < cLine
        omega
       ·show A.units + 1 < cLine
        omega)
      have al:=all_eqDs ds es
      rw [← hl,Nat.min_self,beq_self_eq_true,Bool.and_true] at al
      rw [l1,al] at main
      exact main
     ·have main:=SeqAt.RcAt.lists_lengths (A:=A) ht ht' (by rw [l1,l2]; simpa using hl) hu2
      have al:=all_eqDs ds es
      have hf:(ds.length == es.length) = false:=by simpa using hl
      rw [hf,Bool.and_false] at al
      have z:eqD (D.lst ds) (D.lst es) = eqDs ds es:=by simp only [eqD]
      rw [z, ← al]
      exact main
    | tup es =>
     obtain ⟨a',vs',rfl,q',ar'⟩:=he
     cases ry
     obtain ⟨its',r',ht',_⟩:=I.tuple q'
     exact SeqAt.RcAt.list_tuple ht ht' hu2
    | non => cases hfe
    | bl _ => cases hfe
    | int _ => cases hfe
    | str _ => cases hfe
   | non => cases hfd
   | bl _ => cases hfd
   | int _ => cases hfd
   | str _ => cases hfd
section
variable {X:Cx}
def rEqD (K:PySem.W.Frag) (A:Around):R2:=fun x y H Q => ∃ d e,Yj K H d x∧Yj K H e y∧A.units + dpD d < cLine∧Q (.bl (eqD d e)) H
theorem op_eqD:OpR X (compareOp .Eq) (rEqD X.K X.A):=by
 intro pins s σ H x y v u Q I rx ry h
 obtain ⟨d,e,hd,he,hu,q⟩:=h
 exact rcEq_D I d e x y v u X.A hd he rx ry hu (by omega) X.prog X.w X.xe _ ⟨.bl _,H,I,rfl,q⟩
theorem call_isi:Vi X (.builtin "isinstance") (fun xs H Q => ∃ x T t b,xs = [x,.ty T]∧TyOf X.K H x t∧PySem.W.kitOne X.K t (.type T) = some b∧Q (.bl b) H):=by
 intro pins s σ H xs us Q I r h
 obtain ⟨x,T,t,b,rfl,ty,e,q⟩:=h
 obtain ⟨u,w',rfl,rx,ry⟩:=vals2 r
 cases ry
 exact isinst_ok I rx ty e (fun tk => ⟨.bl b,H,I.tok _,rfl,q⟩)
end
abbrev noE:Value→Shared→Prop:=fun _ _ => False
def testsOf (ifs:List Expr) (env:Env):Sem Bool :=
 forIn ifs true fun c r => if r = true then (isTrue c env (eval c env) >>= fun b => pure (ForInStep.yield b)) else pure (ForInStep.yield r)
section
variable (prog:Program) (w:World) (A:Around) (tg elt:Expr) (ifs:List Expr) (env:Env) (it acc:Value)
def TurnEnd (nxt:Shared→Prop) (ok:Bool) (s:Shared):Prop :=
 if ok = true then wpAny (model prog w) A (eval elt env) (fun y s1 => wpAny (model prog w) A (call (.builtin "list.append") [acc,y]) (fun _ s2 => nxt s2) noE s1) noE s else nxt s
def TurnGo (nxt:Shared→Prop) (v:Value) (s:Shared):Prop :=
 wpAny (model prog w) A (letOwnedTupleGo tg it v) (fun _ s1 => wpAny (model prog w) A (assign tg env v) (fun _ s2 => wpAny (model prog w) A (testsOf ifs env) (TurnEnd prog w A elt env acc nxt) noE s2) noE s1) noE s
end
theorem compLoop_gen {prog:Program} {w:World} {A:Around} {R:Result→Shared→Prop} {s:Shared} {elt tg iter:Expr} {ifs:List Expr} {scope:Scope} {pos:Pos} {it acc:Value} {env:Env} (W:Nat→Shared→Prop)
  (turn:∀ m s1,W m s1→wpAny (model prog w) A (pyNext it) (fun r s2 => r.elim (R (.ok .next) s2) fun v => TurnGo prog w A tg elt ifs env it acc (fun s3 => ∃ m',m' < m∧W m' s3) v s2) noE s1)
  (m:Nat) (start:W m s):codeAny (model prog w) A (.compLoop (.ListComp elt [⟨tg,iter,ifs,0⟩] scope pos) 0 it acc env) R s:=by
 refine codeAny_loop rfl W (fun k s1 hw => ?_) m start
 refine wpAny_noted (env:=env) (m:=compTurn (.ListComp elt [⟨tg,iter,ifs,0⟩] scope pos) 0 it acc env) ?_
 rw [compTurn_list]
 refine wpAny_bind (wpAny_standAt (wpAny_bind (wpAny_mono (turn k s1 hw) (fun r s2 q => ?_) fun _ _ z => z.elim)))
 cases r with
 | none => exact wpAny_pure q
 | some v =>
  have q:TurnGo prog w A tg elt ifs env it acc (fun s3 => ∃ m',m' < k∧W m' s3) v s2:=q
  refine wpAny_bind (wpAny_mono q (fun _ s3 q3 => wpAny_bind (wpAny_mono q3 (fun _ s4 q4 => wpAny_bind (wpAny_mono q4 (fun ok s5 q5 => ?_) fun _ _ z => z.elim)) fun _ _ z => z.elim)) fun _ _ z => z.elim)
  cases ok with
  | false => exact wpAny_pure ⟨rfl,q5⟩
  | true => exact wpAny_bind (wpAny_bind (wpAny_mono q5 (fun y s6 q6 => wpAny_bind (wpAny_mono q6 (fun _ s7 q7 => wpAny_pure (wpAny_pure ⟨rfl,q7⟩)) fun _ _ z => z.elim)) fun _ _ z => z.elim))
def Y9 (env:Env):List (Str × NameKind)→List (Str × Addr)→List (Str × Addr)
 | [],cs => cs
 | (n,k) :: r,cs => Y9 env r (if k == .free then (n,(env.cells.lookup n).getD 0) :: cs else cs)
def Ys (X:Cx) (scope:Scope) (N:List Str) (fp:List Addr) (s:Shared) (H:Hp):Cx :=
 { X with N:=N,s₀:=s,H₀:=H,env:=compEnvC scope (Y9 X.env scope.names []) s.heap.objs.size X.env,outer:=X.stack,stack:=X.stack,ex:=fp,fn:=fun _ => false,pn:=[],xe:=noE }
structure CompOk (X:Cx) (scope:Scope) (N:List Str) (fr:List (Option Nat)):Prop where
 clos:closureFor scope X.env = pure (Y9 X.env scope.names [])
 kind:scope.kind = .function
 nocell:∀ y ∈ scope.names,y.2 ≠ .cell
 names:∀ y ∈ scope.names,y.2 = .local→scope.names.lookup y.1 = some .local
 cells:∀ x c,(Y9 X.env scope.names []).lookup x = some c→X.env.cells.lookup x = some c
 has:∀ x,((relabel scope X.env).names.lookup x = some .cell ∨ (relabel scope X.env).names.lookup x = some .free)→∃ c,(Y9 X.env scope.names []).lookup x = some c
 len:fr.length = N.length
 fr:∀ (i j:Nat),fr[i]? = some (some j)→∃ x,N[i]? = some x∧X.N[j]? = some x∧Vis X.env.scope x∧¬ X.env.kindOf x = some .local∧((relabel scope X.env).names.lookup x = some .cell ∨ (relabel scope X.env).names.lookup x = some .free)
def frees (fr:List (Option Nat)) (σ:St):St:=fr.map fun o => o.bind fun i => (σ[i]?).bind id
theorem frees_length (fr:List (Option Nat)) (σ:St):(frees fr σ).length = fr.length:=List.length_map _
theorem frees_get {fr:List (Option Nat)} {σ:St} {i:Nat} {v:V} (h:(frees fr σ)[i]? = some (some v)):∃ j,fr[i]? = some (some j)∧σ[j]? = some (some v):=by
 unfold frees at h
 rw [List.getElem?_map] at h
 cases e:fr[i]? with
 | none => rw [e] at h; cases h
 | some o =>
  rw [e] at h
  cases o with
  | none => cases h
  | some j =>
   refine ⟨j,rfl, ?_⟩
   have h':(σ[j]?).bind id = some v:=Option.some.inj h
   cases e2:σ[j]? with
   | none => rw [e2] at h'; cases h'
   | some o2 => rw [e2] at h'; exact congrArg some h'
theorem mem_relabel {scope:Scope} {env:Env} {x:Str} {k:NameKind} (h:(relabel scope env).names.lookup x = some k):∃ k0,(x,k0) ∈ scope.names∧(k = k0 ∨ (k0 = .free∧k = .cell)):=by
 have hm:=PySem.mem_of_lookup h
 obtain ⟨⟨n,k0⟩,h1,h2⟩:=List.mem_map.mp (show (x,k) ∈ scope.names.map _ from hm)
 dsimp only at h2
 split at h2
 ·rename_i hc
  cases h2
  simp only [Bool.and_eq_true,beq_iff_eq] at hc
  exact ⟨k0,h1,.inr ⟨hc.1.1,rfl⟩⟩
 ·cases h2
  exact ⟨k,h1,.inl rfl⟩
def scOk (outer scope:Scope):Bool :=
 decide (scope.kind = .function) && scope.names.all fun y => decide (y.2 ≠ .cell) && (decide (y.2 ≠ .local) || decide (scope.names.lookup y.1 = some .local)) &&
  (decide (y.2 ≠ .free) || decide (outer.names.lookup y.1 = some .cell) || decide (outer.names.lookup y.1 = some .free))
def frOk (NX:List Str) (names:List (Str × NameKind)):List Str→List (Option Nat)→Bool
 | [],[] => true
 | _ :: N,none :: fr => frOk NX names N fr
 | x :: N,some j :: fr => decide (NX[j]? = some x) && decide (names.lookup x = some .free) && frOk NX names N fr
 | _,_ => false
theorem frOk_len {NX:List Str} {names:List (Str × NameKind)}:∀ {N:List Str} {fr:List (Option Nat)},frOk NX names N fr = true→fr.length = N.length
 | [],[],_ => rfl
 | [],_ :: _,h => by simp [frOk] at h
 | _ :: _,[],h => by simp [frOk] at h
 | x :: N,none :: fr,h => by
  simp only [frOk] at h
  simp only [List.length_cons,frOk_len h]
 | x :: N,some j :: fr,h => by
  simp only [frOk,Bool.and_eq_true] at h
  simp only [List.length_cons,frOk_len h.2]
theorem frOk_get {NX:List Str} {names:List (Str × NameKind)}:∀ {N:List Str} {fr:List (Option Nat)} {i j:Nat},frOk NX names N fr = true→fr[i]? = some (some j)→∃ x,N[i]? = some x∧NX[j]? = some x∧names.lookup x = some .free
 | [],[],_,_,_,e => by simp at e
 | [],_ :: _,_,_,h,_ => by simp [frOk] at h
 | _ :: _,[],_,_,h,_ => by simp [frOk] at h
 | x :: N,none :: fr,0,_,_,e => by simp at e
 | x :: N,none :: fr,i + 1,j,h,e => by
  simp only [frOk] at h
  obtain ⟨y,h1,h2⟩:=frOk_get (i:=i) h (by simpa using e)
  exact ⟨y,by simpa using h1,h2⟩
 | x :: N,some k :: fr,0,j,h,e => by
  simp only [frOk,Bool.and_eq_true,decide_eq_true_eq] at h
  simp at e
  subst e
  exact ⟨x,rfl,h.1.1,h.1.2⟩
 | x :: N,some k :: fr,i + 1,j,h,e => by
  simp only [frOk,Bool.and_eq_true] at h
  obtain ⟨y,h1,h2⟩:=frOk_get (i:=i) h.2 (by simpa using e)
  exact ⟨y,by simpa using h1,h2⟩
theorem lookup_map_kind {f:Str→NameKind→NameKind} (x:Str):∀ names:List (Str × NameKind),(names.map fun p => (p.1,f p.1 p.2)).lookup x = (names.lookup x).map (f x)
 | [] => rfl
 | (n,k) :: r => by
  have ih:=lookup_map_kind (f:=f) x r
  cases e:x == n with
  | false =>
   simp only [List.map_cons,List.lookup_cons,e]
   exact ih
  | true =>
   have e':x = n:=by simpa using e
   simp only [List.map_cons,List.lookup_cons,e,Option.map_some]
   rw [e']
theorem relabel_names (scope:Scope) (env:Env):(relabel scope env).names = scope.names.map fun p => (p.1,if (p.2 == NameKind.free && env.scope.kind == .function && env.kindOf p.1 == some .cell) = true then NameKind.cell else p.2):=by
 show scope.names.map _ = _
 refine List.map_congr_left fun p _ => ?_
 obtain ⟨n,k⟩:=p
 dsimp only
 split <;> rfl
theorem lookup_relabel_free {scope:Scope} {env:Env} {x:Str} (h:scope.names.lookup x = some .free):(relabel scope env).names.lookup x = some .cell ∨ (relabel scope env).names.lookup x = some .free:=by
 rw [relabel_names,lookup_map_kind (f:=fun n k => if (k == NameKind.free && env.scope.kind == .function && env.kindOf n == some .cell) = true then NameKind.cell else k),h]
 dsimp only [Option.map_some]
 split
 ·exact .inl rfl
 ·exact .inr rfl
theorem closOf_mem {env:Env}:∀ {names:List (Str × NameKind)} {cs:List (Str × Addr)},(∀ y ∈ names,y.2 = .free→∃ c,env.cells.lookup y.1 = some c)→(∀ p ∈ cs,env.cells.lookup p.1 = some p.2)→∀ p ∈ Y9 env names cs,env.cells.lookup p.1 = some p.2
 | [],cs,_,hc,p,hp => hc p hp
 | (n,k) :: r,cs,hn,hc,p,hp => by
  simp only [Y9] at hp
  refine closOf_mem (fun y hy => hn y (List.mem_cons_of_mem _ hy)) (fun q hq => ?_) p hp
  split at hq
  ·rename_i hk
   rcases List.mem_cons.mp hq with e | hq
   ·obtain ⟨c,hc'⟩:=hn (n,k) List.mem_cons_self (by simpa using hk)
    subst e
    dsimp only at hc' ⊢
    rw [hc']
    rfl
   ·exact hc q hq
  ·exact hc q hq
theorem closOf_old {env:Env}:∀ {names:List (Str × NameKind)} {cs:List (Str × Addr)} {p:Str × Addr},p ∈ cs→p ∈ Y9 env names cs
 | [],_,_,h => h
 | (n,k) :: r,cs,p,h => by
  simp only [Y9]
  refine closOf_old ?_
  split
  ·exact List.mem_cons_of_mem _ h
  ·exact h
theorem closOf_has {env:Env}:∀ {names:List (Str × NameKind)} {cs:List (Str × Addr)} {x:Str},(x,NameKind.free) ∈ names→∃ c,(x,c) ∈ Y9 env names cs
 | (n,k) :: r,cs,x,h => by
  rcases List.mem_cons.mp h with e | h
  ·cases e
   exact ⟨_,by simp only [Y9,beq_self_eq_true,if_true]; exact closOf_old List.mem_cons_self⟩
  ·simp only [Y9]
   exact closOf_has h
theorem lookup_of_mem {β:Type}:∀ {l:List (Str × β)} {x:Str} {b:β},(x,b) ∈ l→∃ c,l.lookup x = some c
 | (n,c) :: r,x,b,h => by
  cases hx:x == n with
  | true => exact ⟨c,by simp only [List.lookup_cons,hx]⟩
  | false =>
   rcases List.mem_cons.mp h with e | h
   ·cases e
    simp at hx
   ·obtain ⟨d,hd⟩:=lookup_of_mem h
    exact ⟨d,by simp only [List.lookup_cons,hx]; exact hd⟩
theorem closureFor_eq {scope:Scope} {env:Env} (h:∀ y ∈ scope.names,y.2 = .free→∃ c,env.cells.lookup y.1 = some c):closureFor scope env = pure (Y9 env scope.names []):=by
 have go:∀ (names:List (Str × NameKind)) (cs:List (Str × Addr)),(∀ y ∈ names,y.2 = .free→∃ c,env.cells.lookup y.1 = some c) →
   (forIn names cs fun x cs => (do
    if x.2 == NameKind.free then pure (ForInStep.yield ((x.1, ← cellOf env x.1) :: cs)) else pure (ForInStep.yield cs):Sem (ForInStep (List (Str × Addr))))) = pure (Y9 env names cs):=by
  intro names
  induction names with
  | nil => intro cs _; rfl
  | cons y r ih =>
   intro cs hn
   obtain ⟨n,k⟩:=y
   have hr:∀ y ∈ r,y.2 = .free→∃ c,env.cells.lookup y.1 = some c:=fun y hy => hn y (List.mem_cons_of_mem _ hy)
   rw [List.forIn_cons]
   by_cases hk:k = .free
   ·subst hk
    obtain ⟨c,hc⟩:=hn (n,.free) List.mem_cons_self rfl
    have ec:cellOf env n = pure c:=by
     unfold cellOf
     dsimp only at hc
     rw [hc]
    simp only [beq_self_eq_true,if_true,ec,pure_bind,Y9]
    rw [ih _ hr]
    dsimp only at hc
    rw [hc]
    rfl
   ·have hb:(k == NameKind.free) = false:=by simpa using hk
    simp only [hb,Bool.false_eq_true,if_false,pure_bind,Y9]
    exact ih _ hr
 have:=go scope.names [] h
 unfold closureFor
 simp only [bind_pure_comp] at this ⊢
 first
  | exact this
  | (simpa using this)
structure CompFr (X:Cx) (NX:List Str) (outer scope:Scope) (N:List Str) (fr:List (Option Nat)):Prop where
 nx:X.N = NX
 sc:X.env.scope.names = outer.names
 ok1:scOk outer scope = true
 ok2:frOk NX scope.names N fr = true
theorem CompFr.ok {X:Cx} {NX:List Str} {outer scope:Scope} {N:List Str} {fr:List (Option Nat)} (C:CompFr X NX outer scope N fr) (ok:X.Ok):CompOk X scope N fr:=by
 have h1:=C.ok1
 unfold scOk at h1
 simp only [Bool.and_eq_true,decide_eq_true_eq,List.all_eq_true,Bool.or_eq_true] at h1
 obtain ⟨hk,hn⟩:=h1
 have kof:∀ x,X.env.kindOf x = outer.names.lookup x:=fun x => by
  show X.env.scope.names.lookup x = _
  rw [C.sc]
 have hfree:∀ y ∈ scope.names,y.2 = .free→X.env.kindOf y.1 = some .cell ∨ X.env.kindOf y.1 = some .free:=fun y hy e => by
  rcases (hn y hy).2 with (z | z) | z
  ·exact absurd e z
  ·exact .inl ((kof _).trans z)
  ·exact .inr ((kof _).trans z)
 have hcell:∀ y ∈ scope.names,y.2 = .free→∃ c,X.env.cells.lookup y.1 = some c:=fun y hy e => ok.has y.1 (hfree y hy e)
 refine ⟨closureFor_eq hcell,hk,fun y hy => (hn y hy).1.1,fun y hy e => ?_,fun x c e => ?_,fun x h => ?_,frOk_len C.ok2,fun i j e => ?_⟩
 ·rcases (hn y hy).1.2 with z | z
  ·exact absurd e z
  ·exact z
 ·exact closOf_mem hcell (fun p hp => by cases hp) (x,c) (PySem.mem_of_lookup e)
 ·have hm:(x,NameKind.free) ∈ scope.names:=by
   rcases h with h | h
   ·obtain ⟨k0,h1,h2⟩:=mem_relabel h
    rcases h2 with h2 | ⟨h2,_⟩
    ·exact absurd h2.symm (hn _ h1).1.1
    ·subst h2; exact h1
   ·obtain ⟨k0,h1,h2⟩:=mem_relabel h
    rcases h2 with h2 | ⟨_,h2⟩
    ·subst h2; exact h1
    ·cases h2
  obtain ⟨c,hc⟩:=closOf_has (env:=X.env) (cs:=[]) hm
  exact lookup_of_mem hc
 ·obtain ⟨x,q1,q2,q3⟩:=frOk_get C.ok2 e
  have hm:=PySem.mem_of_lookup q3
  have hf:=hfree (x,.free) hm rfl
  refine ⟨x,q1,by rw [C.nx]; exact q2, ?_, ?_,lookup_relabel_free q3⟩
  ·exact .inr hf
  ·intro z
   dsimp only at hf
   rw [z] at hf
   rcases hf with hf | hf <;> cases hf
section
variable {X:Cx} {scope:Scope} {N:List Str} {fr:List (Option Nat)} {pins:List (Addr × Obj)} {σ:St} {H:Hp} {s:Shared} {fp:List Addr}
theorem inv_comp (C:CompOk X scope N fr) (I:Zn X pins σ H s) (hf:∀ b ∈ fp,FpOk X pins H b) (hob:∀ b ∈ fp,∃ o,s.heap.get? b = some o) {h1:Heap} {tk:Nat}
  (hns:h1.Ns s.heap.objs.size fun _ => none) (hk:∀ b o,s.heap.get? b = some o→h1.get? b = some o) :
  Zn (Ys X scope N fp s H) [] (frees fr σ) H { s with heap:=h1,toks:=tk }:=by
 have lt:∀ b ∈ fp,b < s.heap.objs.size:=fun b hb => let ⟨_,e⟩:=hob b hb; Heap.lt_size e
 have cellK:∀ x c,(Y9 X.env scope.names []).lookup x = some c→∃ v,s.heap.IsCell c v:=fun x c e => I.cell x c (C.cells x c e)
 have ck:∀ c v,s.heap.IsCell c v→h1.IsCell c v:=fun c v ⟨o,e,d⟩ => ⟨o,hk c o e,d⟩
 refine ⟨⟨I.ok.mod,C.kind,I.ok.glob,I.ok.blt,Nat.le_refl _,fun x y c e1 e2 => I.ok.inj x y c (C.cells x c e1) (C.cells y c e2),fun x h => C.has x h,fun x c h _ => absurd h Bool.false_ne_true,I.ok.hd,I.ok.frames,.inl rfl,
   fun b hb => ⟨Nat.ne_of_lt (lt b hb),fun x c e => (hf b hb).2.2.2.2.1 x c (C.cells x c e)⟩,I.bs,Nat.le_trans I.ok.bsz I.sz,fun b o e hb => ?_,fun b hb hb' => ?_,I.stack,I.stkFree⟩,
  rfl,I.bare,Un.kept hk,⟨_,hns,fun i x v e1 e2 e3 => ?_⟩,fun x c e => ?_,I.hok.fresh (Nat.le_refl _),fun x c e => I.freeC x c (C.cells x c e),fun p hp => absurd (show p ∈ ([]:List (Addr × Obj)) from hp) (by simp),I.hok.kept hk, ?_⟩
 ·rcases (hf b hb).2.2.2.1 with z | z
  ·exact I.ok.noex b o e z
  ·exact absurd (Nat.lt_of_lt_of_le (Heap.lt_size (I.ok.bs b o e).1) z) (Nat.lt_irrefl _)
 ·rcases List.mem_cons.mp (I.stkSub b hb') with z | z
  ·exact (hf b hb).2.1 z
  ·exact (hf b hb).2.2.1 z
 ·obtain ⟨j,q1,q2⟩:=frees_get e2
  obtain ⟨x',n1,n2,vis,nl,k⟩:=C.fr i j q1
  have ex:x = x':=Option.some.inj (e1.symm.trans n1)
  subst ex
  obtain ⟨m,hm,hl⟩:=I.loc
  obtain ⟨u,r,l⟩:=hl j x v n2 q2 vis
  refine ⟨u,r, ?_⟩
  rcases l with ⟨l1,_⟩ | ⟨_,c,l2,l3⟩
  ·exact absurd l1 nl
  ·obtain ⟨c',hc'⟩:=C.has x k
   have ec:=C.cells x c' hc'
   rw [l2] at ec
   have ec':c = c':=Option.some.inj ec
   subst ec'
   exact .inr ⟨k,c,hc',ck c _ l3⟩
 ·obtain ⟨v,z⟩:=cellK x c e
  exact ⟨v,ck c v z⟩
 ·show (frees fr σ).length = N.length
  rw [frees_length,C.len]
theorem inv_uncomp (I:Zn X pins σ H s) (hf:∀ b ∈ fp,FpOk X pins H b) {σ':St} {H':Hp} {s':Shared} (J:Zn (Ys X scope N fp s H) [] σ' H' s'):Zn X pins σ H' s' :=
 I.call' (ch:=fp) J.os J.base J.hok J.bare fun b hb => ⟨(hf b hb).2.2.2.1,(hf b hb).2.1,(hf b hb).2.2.2.2.1,(hf b hb).2.2.2.2.2⟩
end
def PTs (X:Cx) (ifs:List Expr) (t:TT):Prop :=
 ∀ (pins:List (Addr × Obj)) (s:Shared) (σ:St) (H:Hp) (Q:Bool→Hp→Prop),Zn X pins σ H s→t σ H Q →
  wpAny (model X.prog X.w) X.A (testsOf ifs X.env) (TP X pins σ Q) X.xe s
def tAlways:TT:=fun _ H Q => Q true H
theorem Vz {X:Cx}:PTs X [] tAlways:=fun _ _ _ H _ I h => wpAny_tests_nil ⟨H,I,h⟩
theorem pts_one {X:Cx} {c:Expr} {t:TT} (h:PT X c t):PTs X [c] t:=fun pins s σ H Q I hw => wpAny_tests_one (h pins s σ H Q I hw)
def CompW (J:It) (g:TG) (tt:TT) (te:TE) (D:Addr) (W:Nat→Nat→List V→St→Hp→Prop) (fin:Hp→Prop):Prop :=
 ∀ i m ys σ H,W i m ys σ H→H D = some (.lst ys)∧((J.stop i H∧fin H) ∨ (J.go i H∧∃ N:List V→St→Hp→Prop,(∀ ys' σ' H',N ys' σ' H'→∃ m',m' < m∧W (i + 1) m' ys' σ' H') ∧
  ∀ x H',J.yld i H x H'→g x σ H' fun σ2 H2 => tt σ2 H2 fun ok H3 =>
   if ok = true then te σ2 H3 fun y H4 => H4 D = some (.lst ys)∧ys.length < sizeLine∧N (ys ++ [y]) σ2 (Zo H4 D (.lst (ys ++ [y]))) else N ys σ2 H3))
abbrev DG:=List Addr→Shared→Hp→TG
abbrev DT:=List Addr→Shared→Hp→TT
abbrev DE:=List Addr→Shared→Hp→TE
def tComp (wi:TI) (fr:List (Option Nat)) (g:DG) (tt:DT) (te:DE):TE:=fun σ H Q => wi σ H fun J H1 => ∀ D fp sx,H1 D = none →
 ∃ W:Nat→Nat→List V→St→Hp→Prop,(∃ m,W 0 m [] (frees fr σ) (Zo H1 D (.lst [])))∧CompW J (g fp sx (Zo H1 D (.lst []))) (tt fp sx (Zo H1 D (.lst []))) (te fp sx (Zo H1 D (.lst []))) D W (fun H => Q (.ref D) H)
section
variable {X:Cx} {scope:Scope} {N:List Str} {fr:List (Option Nat)} {tg elt iter:Expr} {ifs:List Expr} {pos:Pos} {wi:TI} {g:DG} {tt:DT} {te:DE}
theorem comp_run {pins:List (Addr × Obj)} {σ:St} {s2:Shared} {it:Addr} {fp:List Addr} {tn:Nat→Heap→Prop} {J:It} {H2:Hp} {RR:Value→Addr→Result→Shared→Prop} {E:Value→Shared→Prop}
  (hc:X.calm = true) (C:CompOk X scope N fr)
  (hg:∀ fp s H,PG (Ys X scope N fp s H) tg (g fp s H)) (ht:∀ fp s H,PTs (Ys X scope N fp s H) ifs (tt fp s H)) (he:∀ fp s H,PE (Ys X scope N fp s H) elt (te fp s H))
  (I2:Zn X pins σ H2 s2) (T:Turn X.prog X.w X.K tg J fp it tn) (st2:tn 0 s2.heap) (f2:∀ b ∈ fp,FpOk X pins H2 b) {fin:Addr→Hp→Prop}
  (hW:∀ D fp sx,H2 D = none→∃ W:Nat→Nat→List V→St→Hp→Prop,(∃ m,W 0 m [] (frees fr σ) (Zo H2 D (.lst [])))∧CompW J (g fp sx (Zo H2 D (.lst []))) (tt fp sx (Zo H2 D (.lst []))) (te fp sx (Zo H2 D (.lst []))) D W (fin D))
  (hend:∀ D Cc s' σ' H' m,Zn X pins σ H' s'→H' Cc = none→Cc ≠ X.env.locals→Cc ∉ X.fs→X.s₀.heap.objs.size ≤ Cc→(∀ x c,X.env.cells.lookup x = some c→c ≠ Cc)→(∀ p ∈ X.pn ++ pins,p.1 ≠ Cc)→s'.heap.Ns Cc m→fin D H' →
   RR (.ref D) Cc (.ok σ') s') :
  wpAny (model X.prog X.w) X.A (newList []) (fun acc s₃ => wpAny (model X.prog X.w) X.A (newFunctionEnv scope X.env.globals (Y9 X.env scope.names []) [] X.env.qual none .none (some X.env)) (fun cenv s₄ =>
   codeAny (model X.prog X.w) X.A (.compStart (.ListComp elt [⟨tg,iter,ifs,0⟩] scope pos) 0 (.ref it) acc { cenv with scope:=relabel scope X.env }) (RR acc cenv.locals) s₄) E s₃) E s2:=by
 refine wpAny_newObj_type (wpAny_newFunctionEnv C.nocell (by intro y hy; simp at hy) (fun h₁ hns₁ hsb₁ => ?_) C.kind)
 dsimp only at hns₁ hsb₁ ⊢
 have I3:Zn X pins σ (Zo H2 s2.heap.objs.size (.lst [])) { s2 with heap:=s2.heap.push { cls:=.type "list",dict:=none,data:=.seq ([]:List Value).toArray } } :=
  I2.laid (t':=s2.toks) (fun b o e => Heap.get?_push_of_some _ e) (Nat.le_refl _) ⟨Nat.zero_le _,[],0,.nil,Heap.get?_push_size _ rfl⟩
 have hD:H2 s2.heap.objs.size = none:=I2.hok.fresh (Nat.le_refl _)
 obtain ⟨W,⟨m0,w0⟩,turn⟩:=hW _ fp { s2 with heap:=s2.heap.push { cls:=.type "list",dict:=none,data:=.seq ([]:List Value).toArray } } hD
 generalize hDD:s2.heap.objs.size = D at *
 generalize hS3:({ s2 with heap:=s2.heap.push { cls:=.type "list",dict:=none,data:=.seq ([]:List Value).toArray } }:Shared) = S3 at *
 have hS3h:s2.heap.push { cls:=.type "list",dict:=none,data:=.seq ([]:List Value).toArray } = S3.heap:=by rw [← hS3]
 rw [hS3h] at hns₁ hsb₁ ⊢
 have obj2:=T.obj 0 _ st2
 have nD:∀ b ∈ fp,b ≠ D:=fun b hb z => by
  obtain ⟨o,e,_⟩:=obj2 b hb
  have q:=Heap.lt_size e
  rw [hDD,z] at q
  exact absurd q (Nat.lt_irrefl _)
 have f3:∀ b ∈ fp,FpOk X pins (Zo H2 D (.lst [])) b:=fun b hb => ⟨by rw [Zt (nD b hb)]; exact (f2 b hb).1,(f2 b hb).2⟩
 have ob3:∀ b ∈ fp,∃ o,S3.heap.get? b = some o:=fun b hb => by
  obtain ⟨o,e,_⟩:=obj2 b hb
  exact ⟨o,by rw [← hS3h]; exact Heap.get?_push_of_some _ e⟩
 have st3:tn 0 S3.heap:=T.keep _ _ _ st2 fun b hb o e => by rw [← hS3h]; exact Heap.get?_push_of_some _ e
 have hk1:∀ b o,S3.heap.get? b = some o→h₁.get? b = some o:=fun b o e => hsb₁.extBut b o (Nat.ne_of_lt (Heap.lt_size e)) (Heap.get?_push_of_some _ e)
 have J1:Zn (Ys X scope N fp S3 (Zo H2 D (.lst []))) [] (frees fr σ) (Zo H2 D (.lst [])) { S3 with heap:=h₁,toks:=s2.toks + ([]:List (Str × Value)).length }:=inv_comp C I3 f3 ob3 hns₁ hk1
 have st4:tn 0 h₁:=T.keep _ _ _ st3 fun b hb o e => hk1 b o e
 have es:({ s2 with heap:=h₁,toks:=s2.toks + ([]:List (Str × Value)).length }:Shared) = { S3 with heap:=h₁,toks:=s2.toks + ([]:List (Str × Value)).length }:=by rw [← hS3]
 have FpC:∀ {H':Hp},(∀ b ∈ fp,H' b = none)→∀ b ∈ fp,FpOk (Ys X scope N fp S3 (Zo H2 D (.lst []))) [] H' b:=fun hn b hb =>
  ⟨hn b hb,(J1.ok.exf b hb).1,J1.ok.exfs b hb,.inl hb,(J1.ok.exf b hb).2,fun p hp => absurd (show p ∈ ([]:List (Addr × Obj)) from hp) (by simp)⟩
 have loop:codeAny (model X.prog X.w) X.A (.compLoop (.ListComp elt [⟨tg,iter,ifs,0⟩] scope pos) 0 (.ref it) (.ref D) (Ys X scope N fp S3 (Zo H2 D (.lst []))).env) (RR (.ref D) S3.heap.objs.size)
   { S3 with heap:=h₁,toks:=s2.toks + ([]:List (Str × Value)).length }:=by
  refine compLoop_gen (fun n s' => ∃ i ys σ' H',Zn (Ys X scope N fp S3 (Zo H2 D (.lst []))) [] σ' H' s'∧tn i s'.heap∧(∀ b ∈ fp,H' b = none)∧W i n ys σ' H') ?_ m0 ⟨0,[],_,_,J1,st4,fun b hb => (f3 b hb).1,w0⟩
  rintro n s5 ⟨i,ys,σ5,H5,J5,st5,fr5,w5⟩
  obtain ⟨hDl,alt⟩:=turn i n ys σ5 H5 w5
  rcases alt with ⟨stop,fi⟩ | ⟨go,NN,hNN,step⟩
  ·refine Vx (T.done (Ys X scope N fp S3 (Zo H2 D (.lst []))) rfl rfl rfl hc i [] s5 σ5 H5 noE J5 (FpC fr5) st5 stop) fun r s6 ⟨hr,J6⟩ => ?_
   subst hr
   show RR (.ref D) S3.heap.objs.size (.ok .next) s6
   have I6:=inv_uncomp I3 f3 J6
   obtain ⟨mm,hmm,_⟩:=J6.loc
   refine hend D _ s6 _ H5 mm I6 J6.free ?_ ?_ ?_ ?_ ?_ hmm fi
   ·exact Nat.ne_of_gt I3.lt
   ·exact I3.nofs (Nat.le_refl _)
   ·exact I3.sz
   ·intro x c e z
    obtain ⟨v,q⟩:=I3.cell x c e
    exact absurd q.lt (by rw [z]; exact Nat.lt_irrefl _)
   ·intro p hp z
    exact absurd (Heap.lt_size (I3.pin p hp).1) (by rw [z]; exact Nat.lt_irrefl _)
  ·refine Vx (T.item (Ys X scope N fp S3 (Zo H2 D (.lst []))) rfl rfl rfl hc i [] s5 σ5 H5 noE J5 (FpC fr5) st5 go) fun r s6 ⟨u,hr,h6⟩ => ?_
   subst hr
   refine Vx (Q:=_) h6 fun _ s7 ⟨x,H7,J7,r7,y7,st7,fr7⟩ => ?_
   have J7':=J7.pinned (FpC fr7) (T.obj _ _ st7)
   have back:∀ {σ9:St} {H9:Hp} {s9:Shared},Zn (Ys X scope N fp S3 (Zo H2 D (.lst []))) ([] ++ pinsAt fp s7.heap) σ9 H9 s9→tn (i + 1) s9.heap∧∀ b ∈ fp,H9 b = none:=fun {σ9 H9 s9} J9 =>
    ⟨T.keep _ _ _ st7 fun b hb o e => (J9.pin (b,o) (List.mem_append_right _ (List.mem_append_right _ (mem_pinsAt hb e)))).1,fun b hb => by
     obtain ⟨o,e,d⟩:=T.obj _ _ st7 b hb
     exact (J9.pin (b,o) (List.mem_append_right _ (List.mem_append_right _ (mem_pinsAt hb e)))).2.1⟩
   refine Vx (hg fp S3 _ _ s7 σ5 H7 x u _ J7' r7 (step x H7 y7)) fun _ s8 ⟨σ8,H8,J8,q8⟩ => ?_
   refine Vx (ht fp S3 _ _ s8 σ8 H8 _ J8 q8) fun ok s9 ⟨H9,J9,q9⟩ => ?_
   cases ok with
   | false =>
    rw [if_neg Bool.false_ne_true] at q9
    unfold TurnEnd
    rw [if_neg Bool.false_ne_true]
    obtain ⟨m',hm,w9⟩:=hNN _ _ _ q9
    exact ⟨m',hm,i + 1,ys,σ8,H9,J9.unpinned,(back J9).1,(back J9).2,w9⟩
   | true =>
    rw [if_pos rfl] at q9
    unfold TurnEnd
    rw [if_pos rfl]
    refine Vx (he fp S3 _ _ s9 σ8 H9 _ J9 q9) fun yv s10 ⟨y,H10,J10,r10,hD10,hz,n10⟩ => ?_
    obtain ⟨m',hm,w10⟩:=hNN _ _ _ n10
    refine Vx (mt_append (X:=Ys X scope N fp S3 (Zo H2 D (.lst []))) _ s10 σ8 H10 (.ref D) [y] (.ref D) [yv] (fun _ H' => H' = Zo H10 D (.lst (ys ++ [y]))) J10 rfl (.cons r10 .nil) ⟨D,ys,y,rfl,rfl,hD10,hz,rfl⟩) fun _ s11 ⟨v11,H11,J11,_,e11⟩ => ?_
    subst e11
    exact ⟨m',hm,i + 1,ys ++ [y],σ8,_,J11.unpinned,(back J11).1,(back J11).2,w10⟩
 rw [es]
 exact codeAny_compStart_list loop (T.self _ 0 _ _ _ st4 loop)
theorem pe_comp {NX:List Str} {outer:Scope} (hc:X.calm = true) (hi:PI X tg iter wi) (C:CompFr X NX outer scope N fr)
  (hg:∀ fp s H,PG (Ys X scope N fp s H) tg (g fp s H)) (ht:∀ fp s H,PTs (Ys X scope N fp s H) ifs (tt fp s H)) (he:∀ fp s H,PE (Ys X scope N fp s H) elt (te fp s H))
  (hs:∀ x,foldedSetIterable iter X.env x = pure x:=by intro _; rfl):PE X (.ListComp elt [⟨tg,iter,ifs,0⟩] scope pos) (tComp wi fr g tt te):=by
 intro pins s σ H Q I h
 have C:=C.ok I.ok
 rw [eval_ListComp]
 refine wpAny_comprehension_free (use:=none) rfl hs C.clos C.kind C.names (Vx (hi pins s σ H _ I h) fun v s1 h1 => Vx h1 fun itv s2 h2 => ?_)
 obtain ⟨it,fp,tn,J,H2,e,I2,T,st2,f2,hW⟩:=h2
 subst e
 refine comp_run (RR:=fun acc Cc => compPost (model X.prog X.w) X.A X.xe none (EP X pins σ Q) acc Cc) hc C hg ht he I2 T st2 f2 hW ?_
 intro D Cc s' fl H' m I' f0 f1 f2' f3 f4 f5 hns fi
 refine ⟨m,hns,fun h' sb => ?_⟩
 exact ⟨.ref D,H',I'.turned (t':=s'.toks) (fun b o hb e => (sb.2 b hb).trans e) f0 f1 (.inr f3) f4 f5,rfl,fi⟩
theorem ps_setComp {NX:List Str} {outer:Scope} {i:Nat} {x:Str} {pos' pos2:Pos} (hN:X.N.Nodup) (hix:X.N[i]? = some x) (hx:Loc X.env.scope x) (hc:X.calm = true) (hi:PI X tg iter wi) (C:CompFr X NX outer scope N fr)
  (hg:∀ fp s H,PG (Ys X scope N fp s H) tg (g fp s H)) (ht:∀ fp s H,PTs (Ys X scope N fp s H) ifs (tt fp s H)) (he:∀ fp s H,PE (Ys X scope N fp s H) elt (te fp s H))
  (hsw:swapsWith (.ListComp elt [⟨tg,iter,ifs,0⟩] scope pos) (some (.Name x pos')) pos2.line X.env = pure true:=by rfl)
  (hs:∀ x,foldedSetIterable iter X.env x = pure x:=by intro _; rfl) (hf:X.fn x = true ∨ X.env.scope.names.lookup x = some .local:=by first | exact .inl rfl | exact .inr rfl | assumption) :
  PS X (.Assign [.Name x pos'] (.ListComp elt [⟨tg,iter,ifs,0⟩] scope pos) pos2) (tAsg (tComp wi fr g tt te) (gName i)):=by
 intro pins s σ H Dd I h
 have C:=C.ok I.ok
 rw [exec_Assign_Name_used _ _ _ _ hsw]
 refine wpAny_bind (wpAny_standAt (wpAny_bind ?_))
 show wpAny _ X.A (do let _ ← comprehension (.ListComp elt [⟨tg,iter,ifs,0⟩] scope pos) scope X.env _ (newList []) false (eval iter X.env) (some (assign (.Name x pos') X.env))) _ _ s
 refine wpAny_bind (wpAny_mono (wpAny_comprehension_free (use:=some (assign (.Name x pos') X.env)) (Q:=fun _ s' => SP X pins Dd .next s') rfl hs C.clos C.kind C.names
  (Vx (hi pins s σ H _ I h) fun v s1 h1 => Vx h1 fun itv s2 h2 => ?_)) (fun _ s' hq => wpAny_pure (wpAny_pure hq)) fun _ _ e => e)
 obtain ⟨it,fp,tn,J,H2,e,I2,T,st2,f2,hW⟩:=h2
 subst e
 refine comp_run (RR:=fun acc Cc => compPost (model X.prog X.w) X.A X.xe (some (assign (.Name x pos') X.env)) (fun _ s' => SP X pins Dd .next s') acc Cc) hc C hg ht he I2 T st2 f2 hW ?_
 intro D Cc s' fl H' m I' f0 f1 f2' f3 f4 f5 hns fi
 show wpAny _ X.A (assign (.Name x pos') X.env (.ref D)) _ _ _
 refine wpAny_assign_Name (store_ok2 (v:=.ref D) I' hN hix hx rfl (fun s3 I3 ⟨a,sb,ha⟩ => ?_) hf)
 have na:Cc ≠ a:=by
  rcases ha with z | z
  ·rw [z]; exact f1
  ·exact fun q => f4 x a z q.symm
 refine ⟨m,hns.sameBut sb na,fun h' sb' => ?_⟩
 exact ⟨_,H',I3.turned (t':=s3.toks) (fun b o hb e => (sb'.2 b hb).trans e) f0 f1 (.inr f3) f4 f5,fi⟩
end
theorem comp_tup {K:PySem.W.Frag} {a D:Addr} {xs:List V} {g:TG} {tt:TT} {te:TE} {fin:Hp→Prop} {σ0:St} {H0:Hp} (Pv:Nat→List V→St→Hp→Prop) (h0:Pv 0 [] σ0 H0)
  (hq:∀ i ys σ H,i ≤ xs.length→Pv i ys σ H→Z9 K H a xs∧H D = some (.lst ys))
  (hs:∀ i x ys σ H,xs[i]? = some x→Pv i ys σ H→g x σ H fun σ2 H2 => tt σ2 H2 fun ok H3 => if ok = true then te σ2 H3 fun y H4 => H4 D = some (.lst ys)∧ys.length < sizeLine∧Pv (i + 1) (ys ++ [y]) σ2 (Zo H4 D (.lst (ys ++ [y]))) else Pv (i + 1) ys σ2 H3)
  (hd:∀ ys σ H,Pv xs.length ys σ H→fin H):∃ W:Nat→Nat→List V→St→Hp→Prop,(∃ m,W 0 m [] σ0 H0)∧CompW (Itt K a) g tt te D W fin:=by
 refine ⟨fun i m ys σ H => m = xs.length - i∧i ≤ xs.length∧Pv i ys σ H,⟨xs.length,by simp,Nat.zero_le _,h0⟩, ?_⟩
 rintro i m ys σ H ⟨rfl,hi,p⟩
 obtain ⟨q,hD⟩:=hq i ys σ H hi p
 refine ⟨hD, ?_⟩
 by_cases hlt:i < xs.length
 ·refine .inr ⟨⟨xs,xs[i],q,by simp [hlt]⟩,Pv (i + 1),fun ys' σ' H' p' => ⟨xs.length - (i + 1),by omega,rfl,hlt,p'⟩,fun x H' y => ?_⟩
  obtain ⟨e,y⟩:=y
  subst e
  exact hs i x ys σ _ (y xs q) p
 ·have e:i = xs.length:=by omega
  subst e
  exact .inl ⟨⟨xs,q,Nat.le_refl _⟩,hd ys σ H p⟩
theorem comp_list {K:PySem.W.Frag} {a D:Addr} {xs:List V} {g:TG} {tt:TT} {te:TE} {fin:Hp→Prop} {σ0:St} {H0:Hp} (Pv:Nat→List V→St→Hp→Prop) (h0:Pv 0 [] σ0 H0)
  (hq:∀ i ys σ H,i ≤ xs.length→Pv i ys σ H→Yg K H a xs∧H D = some (.lst ys))
  (hs:∀ i x ys σ H,xs[i]? = some x→Pv i ys σ H→g x σ H fun σ2 H2 => tt σ2 H2 fun ok H3 => if ok = true then te σ2 H3 fun y H4 => H4 D = some (.lst ys)∧ys.length < sizeLine∧Pv (i + 1) (ys ++ [y]) σ2 (Zo H4 D (.lst (ys ++ [y]))) else Pv (i + 1) ys σ2 H3)
  (hd:∀ ys σ H,Pv xs.length ys σ H→fin H):∃ W:Nat→Nat→List V→St→Hp→Prop,(∃ m,W 0 m [] σ0 H0)∧CompW (Itl K a) g tt te D W fin:=by
 refine ⟨fun i m ys σ H => m = xs.length - i∧i ≤ xs.length∧Pv i ys σ H,⟨xs.length,by simp,Nat.zero_le _,h0⟩, ?_⟩
 rintro i m ys σ H ⟨rfl,hi,p⟩
 obtain ⟨q,hD⟩:=hq i ys σ H hi p
 refine ⟨hD, ?_⟩
 by_cases hlt:i < xs.length
 ·refine .inr ⟨⟨xs,xs[i],q,by simp [hlt]⟩,Pv (i + 1),fun ys' σ' H' p' => ⟨xs.length - (i + 1),by omega,rfl,hlt,p'⟩,fun x H' y => ?_⟩
  obtain ⟨e,y⟩:=y
  subst e
  exact hs i x ys σ _ (y xs q) p
 ·have e:i = xs.length:=by omega
  subst e
  exact .inl ⟨⟨xs,q,Nat.le_refl _⟩,hd ys σ H p⟩
theorem comp_range {lo:Int} {n:Nat} {D:Addr} {g:TG} {tt:TT} {te:TE} {fin:Hp→Prop} {σ0:St} {H0:Hp} (Pv:Nat→List V→St→Hp→Prop) (h0:Pv 0 [] σ0 H0)
  (hq:∀ i ys σ H,i ≤ n→Pv i ys σ H→H D = some (.lst ys))
  (hs:∀ i ys σ H,i < n→Pv i ys σ H→g (.int (lo + i)) σ H fun σ2 H2 => tt σ2 H2 fun ok H3 => if ok = true then te σ2 H3 fun y H4 => H4 D = some (.lst ys)∧ys.length < sizeLine∧Pv (i + 1) (ys ++ [y]) σ2 (Zo H4 D (.lst (ys ++ [y]))) else Pv (i + 1) ys σ2 H3)
  (hd:∀ ys σ H,Pv n ys σ H→fin H):∃ W:Nat→Nat→List V→St→Hp→Prop,(∃ m,W 0 m [] σ0 H0)∧CompW (Itr lo n) g tt te D W fin:=by
 refine ⟨fun i m ys σ H => m = n - i∧i ≤ n∧Pv i ys σ H,⟨n,by simp,Nat.zero_le _,h0⟩, ?_⟩
 rintro i m ys σ H ⟨rfl,hi,p⟩
 refine ⟨hq i ys σ H hi p, ?_⟩
 by_cases hlt:i < n
 ·refine .inr ⟨hlt,Pv (i + 1),fun ys' σ' H' p' => ⟨n - (i + 1),by omega,rfl,hlt,p'⟩,fun x H' y => ?_⟩
  obtain ⟨e,y⟩:=y
  subst e y
  exact hs i ys σ _ hlt p
 ·have e:i = n:=by omega
  subst e
  exact .inl ⟨Nat.le_refl _,hd ys σ H p⟩
end L2
namespace SetM
open PySem
def Ris (xs:Array Nat):Prop:=∀ a b (h:a < b) (hb:b < xs.size),xs[a]'(Nat.lt_trans h hb) < xs[b]
theorem getD_in {xs:Array Nat} {i d:Nat} (h:i < xs.size):xs.getD i d = xs[i]:=by simp [Array.getD,h]
theorem go_spec {xs:Array Nat} {j:Nat} (hr:Ris xs):∀ (fuel lo hi:Nat),hi - lo ≤ fuel→lo ≤ hi→hi ≤ xs.size→(∀ i (h:i < xs.size),i < lo→xs[i] < j)→(∀ i (h:i < xs.size),hi ≤ i→j ≤ xs[i]) →
  (∀ i (h:i < xs.size),i < SetTable.below.go xs j fuel lo hi→xs[i] < j)∧(∀ i (h:i < xs.size),SetTable.below.go xs j fuel lo hi ≤ i→j ≤ xs[i])∧SetTable.below.go xs j fuel lo hi ≤ xs.size
 | 0,lo,hi,hf,hl,hs,h1,h2 => by
  have e:lo = hi:=by omega
  subst e
  simp only [SetTable.below.go]
  exact ⟨h1,h2,hs⟩
 | fuel + 1,lo,hi,hf,hl,hs,h1,h2 => by
  simp only [SetTable.below.go]
  by_cases h:lo < hi
  ·rw [if_pos h]
   have hm:(lo + hi) / 2 < xs.size:=by omega
   rw [getD_in hm]
   by_cases hc:xs[(lo + hi) / 2] < j
   ·rw [if_pos hc]
    refine go_spec hr fuel _ _ (by omega) (by omega) hs (fun i hi' hlt => ?_) h2
    rcases Nat.lt_or_ge i ((lo + hi) / 2) with z | z
    ·exact Nat.lt_trans (hr i _ z hm) hc
    ·have e:i = (lo + hi) / 2:=by omega
     subst e; exact hc
   ·rw [if_neg hc]
    refine go_spec hr fuel _ _ (by omega) (by omega) (by omega) h1 (fun i hi' hle => ?_)
    rcases Nat.lt_or_ge ((lo + hi) / 2) i with z | z
    ·have:=hr _ i z hi'; omega
    ·have e:i = (lo + hi) / 2:=by omega
     subst e; omega
  ·rw [if_neg h]
   have e:lo = hi:=by omega
   subst e
   exact ⟨h1,h2,hs⟩
theorem below_spec {xs:Array Nat} {j:Nat} (hr:Ris xs):(∀ i (h:i < xs.size),i < SetTable.below xs j→xs[i] < j)∧(∀ i (h:i < xs.size),SetTable.below xs j ≤ i→j ≤ xs[i])∧SetTable.below xs j ≤ xs.size :=
 go_spec hr xs.size 0 xs.size (by omega) (by omega) (Nat.le_refl _) (fun i _ h => by omega) (fun i h h' => by omega)
theorem below_next {xs:Array Nat} (hr:Ris xs) {i:Nat} (h:i < xs.size):SetTable.below xs (xs[i] + 1) = i + 1:=by
 obtain ⟨h1,h2,h3⟩:=below_spec (j:=xs[i] + 1) hr
 rcases Nat.lt_trichotomy (SetTable.below xs (xs[i] + 1)) (i + 1) with z | z | z
 ·have:=h2 i h (by omega); omega
 ·exact z
 ·have hi:i + 1 < xs.size:=by omega
  have:=h1 (i + 1) hi z
  have:=hr i (i + 1) (by omega) hi
  omega
theorem below_zero {xs:Array Nat} (hr:Ris xs):SetTable.below xs 0 = 0:=by
 obtain ⟨h1,h2,h3⟩:=below_spec (j:=0) hr
 rcases Nat.eq_zero_or_pos (SetTable.below xs 0) with z | z
 ·exact z
 ·have:=h1 0 (by omega) z; omega
theorem ris_range (n:Nat):Ris (Array.range n):=fun a b h hb => by simp; omega
theorem insert_get {xs:Array Nat} {p j:Nat} (hp:p ≤ xs.size):∀ i,(SetTable.insertAt xs p j)[i]? = if i < p then xs[i]? else if i = p then some j else xs[i - 1]?:=by
 intro i
 unfold SetTable.insertAt
 have hs1:((xs.extract 0 p).push j).size = p + 1:=by simp; omega
 rw [Array.getElem?_append,hs1]
 by_cases h1:i < p + 1
 ·rw [if_pos h1,Array.getElem?_push]
  have hs2:(xs.extract 0 p).size = p:=by simp; omega
  rw [hs2]
  by_cases h2:i = p
  ·rw [if_pos h2,if_neg (by omega),if_pos h2]
  ·rw [if_neg h2,if_pos (by omega)]
   rw [Array.getElem?_extract]
   simp
   omega
 ·rw [if_neg h1,if_neg (by omega),if_neg (by omega)]
  rw [Array.getElem?_extract]
  have e:p + (i - (p + 1)) = i - 1:=by omega
  rw [e]
  simp
  intro h
  omega
theorem insert_size {α:Type} {xs:Array α} {p:Nat} {j:α} (hp:p ≤ xs.size):(SetTable.insertAt xs p j).size = xs.size + 1:=by
 unfold SetTable.insertAt
 simp
 omega
theorem ris_put {xs:Array Nat} {j:Nat} (hr:Ris xs) (hn:xs[SetTable.below xs j]? ≠ some j):Ris (SetTable.insertAt xs (SetTable.below xs j) j):=by
 obtain ⟨h1,h2,h3⟩:=below_spec (j:=j) hr
 generalize hk:SetTable.below xs j = k at h1 h2 h3 hn
 have g:=insert_get (xs:=xs) (j:=j) h3
 intro a b hab hb
 rw [insert_size h3] at hb
 have ga:=g a
 have gb:=g b
 have ha':a < (SetTable.insertAt xs k j).size:=by rw [insert_size h3]; omega
 have hb':b < (SetTable.insertAt xs k j).size:=by rw [insert_size h3]; omega
 rw [Array.getElem?_eq_getElem ha'] at ga
 rw [Array.getElem?_eq_getElem hb'] at gb
 have strict:∀ i (h:i < xs.size),k ≤ i→j < xs[i]:=fun i h hk' => by
  have hle:=h2 i h hk'
  rcases Nat.lt_or_ge k i with z | z
  ·have hkz:k < xs.size:=by omega
   have:=hr k i z h
   have:=h2 k hkz (Nat.le_refl _)
   omega
  ·have e:i = k:=by omega
   subst e
   rw [Array.getElem?_eq_getElem h] at hn
   have:xs[i] ≠ j:=fun q => hn (by rw [q])
   omega
 by_cases a1:a < k
 ·rw [if_pos a1,Array.getElem?_eq_getElem (by omega)] at ga
  have ga':=Option.some.inj ga
  by_cases b1:b < k
  ·rw [if_pos b1,Array.getElem?_eq_getElem (by omega)] at gb
   have gb':=Option.some.inj gb
   rw [ga',gb']
   exact hr a b hab (by omega)
  ·rw [if_neg b1] at gb
   by_cases b2:b = k
   ·rw [if_pos b2] at gb
    have gb':=Option.some.inj gb
    rw [ga',gb']
    exact h1 a (by omega) a1
   ·rw [if_neg b2,Array.getElem?_eq_getElem (by omega)] at gb
    have gb':=Option.some.inj gb
    rw [ga',gb']
    exact hr a (b - 1) (by omega) (by omega)
 ·rw [if_neg a1] at ga
  rw [if_neg (by omega),if_neg (by omega),Array.getElem?_eq_getElem (by omega)] at gb
  have gb':=Option.some.inj gb
  by_cases a2:a = k
  ·rw [if_pos a2] at ga
   have ga':=Option.some.inj ga
   rw [ga',gb']
   exact strict (b - 1) (by omega) (by omega)
  ·rw [if_neg a2,Array.getElem?_eq_getElem (by omega)] at ga
   have ga':=Option.some.inj ga
   rw [ga',gb']
   exact hr (a - 1) (b - 1) (by omega) (by omega)
structure TabI (t:SetTable) (n:Nat):Prop where
 size:t.place.size = n
 dum:t.dummies = #[]
 ris:Ris t.place
 room:n ≤ t.mask
theorem TabI.fits {t:SetTable} {n:Nat} (h:TabI t n):t.fits n = true:=by
 unfold SetTable.fits SetTable.fill
 rw [h.dum,h.size]
 simp
 exact h.room
theorem tab_fresh (f m:Nat) (led:Bool):TabI (SetTable.fresh f m led) 0:=⟨rfl,rfl,fun a b _ hb => by simp [SetTable.fresh] at hb,Nat.zero_le _⟩
theorem tab_standIn (t:SetTable) (n:Nat):TabI (t.standIn n) n:=⟨by simp [SetTable.standIn],rfl,ris_range n,by simp [SetTable.standIn]; omega⟩
theorem has_nil (j:Nat):SetTable.has #[] j = false:=by simp [SetTable.has]
theorem tab_orStandIn {t:SetTable} {n:Nat} (hs:t.place.size = n) (hd:t.dummies = #[]) (hr:Ris t.place):TabI (t.orStandIn n) n:=by
 unfold SetTable.orStandIn
 split
 ·rename_i h
  refine ⟨hs,hd,hr, ?_⟩
  unfold SetTable.fits SetTable.fill at h
  rw [hd,hs] at h
  simpa using h
 ·exact tab_standIn t n
theorem probe_empty {t:SetTable} (hd:t.dummies = #[]) {f:Nat→Int} {h:Int} {j:Nat} {dm:Option Nat}:∀ (fuel:Nat) (p:SetTable.Probe),p.dummy = none→SetTable.probe.go t f h fuel p = some (.empty j dm)→dm = none∧t.place[SetTable.below t.place j]? ≠ some j
 | 0,p,_,e => by simp [SetTable.probe.go] at e
 | fuel + 1,p,hp,e => by
  have adv:(t.advance p).dummy = none:=by
   unfold SetTable.advance
   split
   ·exact hp
   ·exact hp
  simp only [SetTable.probe.go] at e
  cases hs:t.slot p.j with
  | empty =>
   rw [hs] at e
   simp only [Option.some.injEq,SetTable.Met.empty.injEq] at e
   obtain ⟨e1,e2⟩:=e
   subst e1
   refine ⟨by rw [← e2,hp],fun q => ?_⟩
   unfold SetTable.slot at hs
   simp [q] at hs
  | dummy =>
   exfalso
   unfold SetTable.slot at hs
   simp only [hd,has_nil] at hs
   split at hs <;> simp at hs
  | live i =>
   rw [hs] at e
   simp only at e
   split at e
   ·simp at e
   ·exact probe_empty hd fuel _ adv e
theorem tab_layNew {t:SetTable} {es:Array (Int × Value)} (h:TabI t es.size) (k:Int) (x:Value):TabI (layNew t es k x).2.1 (layNew t es k x).1.size:=by
 unfold layNew
 cases hf:t.freeSlot k with
 | none =>
  simp only
  have:(es.push (k,x)).size = es.size + 1:=by simp
  rw [this]
  exact tab_standIn t _
 | some sw =>
  obtain ⟨slot,wd⟩:=sw
  simp only
  unfold SetTable.freeSlot at hf
  have hn:t.place[SetTable.below t.place slot]? ≠ some slot:=by
   cases hp:t.probe (fun _ => k + 1) k (t.probeStart k) with
   | none => rw [hp] at hf; simp at hf
   | some m =>
    rw [hp] at hf
    cases m with
    | candidate a b c => simp at hf
    | empty j dm =>
     obtain ⟨e1,e2⟩:=probe_empty h.dum _ (t.probeStart k) rfl hp
     subst e1
     simp at hf
     rw [← hf.1]
     exact e2
  obtain ⟨_,_,hb⟩:=below_spec (j:=slot) h.ris
  have hb':SetTable.below t.place slot ≤ es.size:=by rw [← h.size]; exact hb
  have e1:(t.put slot).2 = SetTable.below t.place slot:=rfl
  refine tab_orStandIn ?_ ?_ ?_
  ·rw [e1,insert_size hb']
   show (SetTable.insertAt t.place (SetTable.below t.place slot) slot).size = es.size + 1
   rw [insert_size hb,h.size]
  ·show (if SetTable.has t.dummies slot then _ else t.dummies) = #[]
   rw [h.dum,has_nil]
   rfl
  ·exact ris_put h.ris hn
theorem layNew_led {t:SetTable} {es:Array (Int × Value)} (k:Int) (x:Value):(layNew t es k x).2.1.led = t.led:=by
 unfold layNew
 split
 ·simp only [SetTable.orStandIn]
  split <;> rfl
 ·rfl
theorem range_live (n:Nat) (g:Nat→Option Nat):((List.range n).filterMap fun j => (g j).map (j, ·)).Pairwise fun a b => a.1 < b.1:=by
 rw [List.pairwise_filterMap]
 refine List.Pairwise.imp ?_ List.pairwise_lt_range
 intro a b hab c hc d hd
 cases ha:g a with
 | none => rw [ha] at hc; simp at hc
 | some u =>
  cases hb:g b with
  | none => rw [hb] at hd; simp at hd
  | some v =>
   rw [ha] at hc
   rw [hb] at hd
   simp at hc hd
   rw [← hc, ← hd]
   exact hab
theorem tab_relayAll {t:SetTable} {es:Array (Int × Value)} (wanted:Nat):TabI (relayAll t es wanted).2.1 (relayAll t es wanted).1.size:=by
 unfold relayAll
 cases hr:t.relaid (es.map (·.1)) wanted with
 | none => exact tab_standIn t _
 | some to =>
  obtain ⟨t',order⟩:=to
  simp only
  split
  ·rename_i hc
   unfold SetTable.relaid SetTable.laid at hr
   cases hl:SetTable.layClean (SetTable.sizeAbove wanted - 1) (es.map (·.1)) with
   | none => rw [hl] at hr; simp at hr
   | some owner =>
    rw [hl] at hr
    simp at hr
    obtain ⟨h1,h2⟩:=hr
    have hfit:=(Bool.and_eq_true_iff.mp hc).2
    have hd:t'.dummies = #[]:=by rw [← h1]
    refine ⟨?_,hd, ?_, ?_⟩
    ·unfold SetTable.fits at hfit
     simp at hfit
     exact hfit.1
    ·rw [← h1]
     intro a b hab hb
     have hp:=range_live (SetTable.sizeAbove wanted - 1 + 1) (fun j => owner[j]?.getD none)
     have hp2:(((List.range (SetTable.sizeAbove wanted - 1 + 1)).filterMap fun j => (owner[j]?.getD none).map (j, ·)).map fun p => p.1).Pairwise (· < ·):=List.pairwise_map.mpr hp
     simp only [List.getElem_toArray]
     exact List.pairwise_iff_getElem.mp hp2 a b _ _ hab
    ·unfold SetTable.fits SetTable.fill at hfit
     rw [hd] at hfit
     simp at hfit
     exact (hfit.1 ▸ hfit.2:_)
  ·exact tab_standIn t _
theorem relayAll_led {t:SetTable} {es:Array (Int × Value)} (wanted:Nat):(relayAll t es wanted).2.1.led = t.led:=by
 unfold relayAll
 cases hr:t.relaid (es.map (·.1)) wanted with
 | none => rfl
 | some to =>
  obtain ⟨t',order⟩:=to
  simp only
  split
  ·unfold SetTable.relaid SetTable.laid at hr
   cases hl:SetTable.layClean (SetTable.sizeAbove wanted - 1) (es.map (·.1)) with
   | none => rw [hl] at hr; simp at hr
   | some owner =>
    rw [hl] at hr
    simp at hr
    rw [← hr.1]
  ·rfl
theorem paired_perm {α β:Type} {F:α→β→Prop} {l l':List β} (p:l'.Perm l):∀ {ks:List α},Paired F ks l→∃ ks',Paired F ks' l'∧ks'.Perm ks:=by
 induction p with
 | nil => intro ks h; cases h; exact ⟨[],.nil,.nil⟩
 | cons x p ih =>
  intro ks h
  cases h with
  | cons r t =>
   obtain ⟨ks',h1,h2⟩:=ih t
   exact ⟨_ :: ks',.cons r h1,h2.cons _⟩
 | swap x y l =>
  intro ks h
  cases h with
  | cons r t =>
   cases t with
   | cons r' t' => exact ⟨_ :: _ :: _,.cons r' (.cons r t'),.swap _ _ _⟩
 | trans p1 p2 ih1 ih2 =>
  intro ks h
  obtain ⟨k1,h1,h2⟩:=ih2 h
  obtain ⟨k2,h3,h4⟩:=ih1 h1
  exact ⟨k2,h3,h4.trans h2⟩
theorem paired_mem {α β:Type} {F:α→β→Prop}:∀ {ks:List α} {l:List β},Paired F ks l→∀ k ∈ ks,∃ e ∈ l,F k e
 | _,_,.nil,k,h => by cases h
 | _,_,.cons r t,k,h => by
  rcases List.mem_cons.mp h with z | z
  ·subst z; exact ⟨_,List.mem_cons_self,r⟩
  ·obtain ⟨e,h1,h2⟩:=paired_mem t k z
   exact ⟨e,List.mem_cons_of_mem _ h1,h2⟩
theorem paired_mem' {α β:Type} {F:α→β→Prop}:∀ {ks:List α} {l:List β},Paired F ks l→∀ e ∈ l,∃ k ∈ ks,F k e
 | _,_,.nil,k,h => by cases h
 | _,_,.cons r t,k,h => by
  rcases List.mem_cons.mp h with z | z
  ·subst z; exact ⟨_,List.mem_cons_self,r⟩
  ·obtain ⟨e,h1,h2⟩:=paired_mem' t k z
   exact ⟨e,List.mem_cons_of_mem _ h1,h2⟩
section
variable {prog:Program} {w:World} {K:Type} [DecidableEq K] (knd:KeyKind prog w K)
structure SetO (o:Obj) (ks:List K):Prop where
 ex:o.ExactSet
 dat:∃ es ep t,o.data = .set es ep t∧ElemsOf knd es.toList∧Paired (fun k (e:Int × Value) => knd.is k e.2 = true) ks es.toList∧es.size < scanBound∧TabI t es.size∧t.led = !(w.params.followText "set-order")
 nd:ks.Nodup
def SetG (h:Heap) (a:Addr) (ks:List K):Prop:=∃ o,h.get? a = some o∧SetO knd o ks
variable {knd} {A:Around} {E:Value→Shared→Prop} {s:Shared} {a:Addr}
theorem SetO.len {o:Obj} {ks:List K} (h:SetO knd o ks):ks.length < scanBound:=by
 obtain ⟨es,ep,t,_,_,p,b,_⟩:=h.dat
 rw [p.length,Array.length_toList]
 exact b
theorem store_back {o:Obj} {es es':Array (Int × Value)} {ep:Nat} {t t':SetTable} {ks':List K} {h:Heap} (ho:h.get? a = some o) (hex:o.ExactSet) (hd:o.data = .set es ep t) (el:ElemsOf knd es'.toList)
  (pr:Paired (fun k (e:Int × Value) => knd.is k e.2 = true) ks' es'.toList) (hb:es'.size < scanBound) (ti:TabI t' es'.size) (hl:t'.led = !(w.params.followText "set-order")) (nd:ks'.Nodup) :
  (h.update a (Obj.putSet es' t')).get? a = some { o with data:=.set es' (ep + 1) t' }∧SetO knd { o with data:=.set es' (ep + 1) t' } ks':=by
 have mem:∀ k',(decide (k' ∈ ks')) = true ↔ ∃ e ∈ es'.toList,knd.is k' e.2 = true:=fun k' => by
  rw [decide_eq_true_eq]
  constructor
  ·exact fun hk => paired_mem pr k' hk
  ·rintro ⟨e,he,hq⟩
   obtain ⟨k2,h1,h2⟩:=paired_mem' pr e he
   rw [knd.inj e.2 k' k2 hq h2]
   exact h1
 obtain ⟨e1,o2,es2,ep2,t2,e2,ex2,d2,_⟩:=SetOf_store (knd:=knd) ho hex hd el mem hb ti.fits
 rw [e1] at e2
 cases e2
 exact ⟨e1,⟨ex2,⟨es',ep + 1,t',rfl,el,pr,hb,ti,hl⟩,nd⟩⟩
theorem set_add {ks:List K} {k:K} {x:Value} {Q:Bool→Shared→Prop} (hkey:knd.is k x = true) (hsc:x.scannable = true) (hS:SetG knd s.heap a ks) (hroom:ks.length + 1 < scanBound)
  (h:∀ h' ks',Heap.SameBut a s.heap h'→SetG knd h' a ks'→ks'.Perm (if k ∈ ks then ks else ks ++ [k])→Q (!decide (k ∈ ks)) { s with heap:=h' }) :
  wpAny (model prog w) A (setAddHashed a x (knd.hash k)) Q E s:=by
 obtain ⟨o,ho,S⟩:=hS
 obtain ⟨es,ep,t,hd,hel,pr,hb,ti,hled⟩:=S.dat
 have hlen:ks.length = es.size:=by rw [pr.length,Array.length_toList]
 unfold setAddHashed setAddHashedIn
 refine wpAny_holding (wpAny_bind (wpAny_setState_of ho hd ti.fits ?_))
 dsimp only
 rw [byScan_of hsc hb hel]
 simp only [↓reduceIte]
 unfold setAddByScan
 refine wpAny_bind (wpAny_bind (wpAny_rule (wpAny_bind (wpAny_setScan_of hkey ho hd ti.fits hel ?_))))
 cases hr:List.findIdx? (fun e => knd.is k e.2) es.toList with
 | some j =>
  dsimp only
  obtain ⟨hj,hpj,_⟩:=List.findIdx?_eq_some_iff_getElem.mp hr
  have hk:k ∈ ks:=by
   obtain ⟨k2,h1,h2⟩:=paired_mem' pr _ (List.getElem_mem hj)
   rw [knd.inj _ k k2 hpj h2]
   exact h1
  have q:=h s.heap ks (Heap.SameBut.refl a s.heap) ⟨o,ho,S⟩ (by rw [if_pos hk])
  rw [decide_eq_true hk] at q
  exact wpAny_pure (wpAny_pure q)
 | none =>
  dsimp only
  have hk:k ∉ ks:=fun hm => by
   obtain ⟨e,he,hq⟩:=paired_mem pr k hm
   have z:=List.findIdx?_eq_none_iff.mp hr e he
   rw [hq] at z
   cases z
  have gw:∀ (b:Bool) {s₁:Shared} {Q':Unit→Shared→Prop},Q' () s₁→wpAny (model prog w) A (match b with | true => rule "set.scan.the-table-gave-way" | false => pure ()) Q' E s₁ :=
   fun b s₁ Q' hq => by cases b <;> first | exact wpAny_pure hq | exact wpAny_rule hq
  have perm0:=layNew_perm t es (knd.hash k) x
  have tab1:=tab_layNew (t:=t) ti (knd.hash k) x
  have led1:=layNew_led (t:=t) (es:=es) (knd.hash k) x
  generalize hL:layNew t es (knd.hash k) x = L at perm0 tab1 led1 ⊢
  obtain ⟨es1,t1,wasDummy,gave⟩:=L
  dsimp only at perm0 tab1 led1 ⊢
  rw [Array.toList_push] at perm0
  have el1:ElemsOf knd es1.toList:=(hel.push hkey hsc).perm perm0
  have pr0:Paired (fun k (e:Int × Value) => knd.is k e.2 = true) (ks ++ [k]) (es.toList ++ [(knd.hash k,x)]):=Paired.snoc pr hkey
  obtain ⟨ks1,pr1,pk1⟩:=paired_perm perm0 pr0
  have nd1:ks1.Nodup:=pk1.nodup_iff.mpr (List.nodup_append.mpr ⟨S.nd,List.nodup_cons.mpr ⟨by simp,List.nodup_nil⟩,fun u hu v hv => by
   rw [List.mem_singleton.mp hv]; exact fun z => hk (z ▸ hu)⟩)
  have sz1:es1.size = es.size + 1:=by
   have:=perm0.length_eq
   rw [List.length_append,Array.length_toList,Array.length_toList] at this
   simpa using this
  have hb1:es1.size < scanBound:=by omega
  refine wpAny_bind (gw _ ?_)
  have tailOk:∀ t2:SetTable,TabI t2 es1.size→t2.led = t.led→wpAny (model prog w) A (do
    storeSet a es1 t2
    if (!wasDummy && t2.tooFull) = true then do
      (match (relayAll t2 es1 (SetTable.grown es1.size)).2.2 with | true => rule "set.scan.the-table-gave-way" | false => pure ())
      storeSet a (relayAll t2 es1 (SetTable.grown es1.size)).1 (relayAll t2 es1 (SetTable.grown es1.size)).2.1
      pure (some true)
     else pure (some true)) (fun b s' => b = some true∧∃ h' ks',s' = { s with heap:=h' }∧Heap.SameBut a s.heap h'∧SetG knd h' a ks'∧ks'.Perm (ks ++ [k])) E s:=by
   intro t2 ti2 hl2
   refine wpAny_bind (wpAny_storeSet_of ho hd ?_ (fits_of_scanBound hb1))
   obtain ⟨g1,S1⟩:=store_back (knd:=knd) ho S.ex hd el1 pr1 hb1 ti2 (hl2.trans hled) nd1
   have sb1:=Heap.SameBut.update s.heap a (Obj.putSet es1 t2)
   split
   ·have hp:=relayAll_perm t2 es1 (SetTable.grown es1.size)
    have ti3:=tab_relayAll (t:=t2) (es:=es1) (SetTable.grown es1.size)
    have led3:=relayAll_led (t:=t2) (es:=es1) (SetTable.grown es1.size)
    generalize relayAll t2 es1 (SetTable.grown es1.size) = Rl at hp ti3 led3 ⊢
    obtain ⟨es2,t3,gave2⟩:=Rl
    dsimp only at hp ti3 led3 ⊢
    obtain ⟨ks2,pr2,pk2⟩:=paired_perm hp pr1
    have sz2:es2.size = es1.size:=by
     have:=hp.length_eq
     rwa [Array.length_toList,Array.length_toList] at this
    have hb2:es2.size < scanBound:=by omega
    refine wpAny_bind (gw _ ?_)
    refine wpAny_bind (wpAny_storeSet_of g1 rfl ?_ (fits_of_scanBound hb2))
    obtain ⟨g2,S2⟩:=store_back (knd:=knd) g1 S1.ex rfl (el1.perm hp) pr2 hb2 ti3 (led3.trans (hl2.trans hled)) (pk2.nodup_iff.mpr nd1)
    exact wpAny_pure ⟨rfl,_,ks2,rfl,sb1.trans (Heap.SameBut.update _ a _),⟨_,g2,S2⟩,pk2.trans pk1⟩
   ·exact wpAny_pure ⟨rfl,_,ks1,rfl,sb1,⟨_,g1,S1⟩,pk1⟩
  have fin:∀ b s',(b = some true∧∃ h' ks',s' = { s with heap:=h' }∧Heap.SameBut a s.heap h'∧SetG knd h' a ks'∧ks'.Perm (ks ++ [k])) →
    wpAny (model prog w) A (match b with | some added => pure added | none => setAddHashedIn a x (knd.hash k) 99999) Q E s':=by
   rintro b s' ⟨rfl,h',ks',rfl,sb,g,pk⟩
   have q:=h h' ks' sb g (by rw [if_neg hk]; exact pk)
   rw [decide_eq_false hk] at q
   exact wpAny_pure q
  split
  ·refine wpAny_bind ?_
   rw [hashByValue_scannable 8 hsc]
   refine wpAny_pure ?_
   refine wpAny_mono (tailOk _ ?_ ?_) fin fun _ _ z => z
   ·split
    ·exact tab1
    ·exact ⟨tab1.size,tab1.dum,tab1.ris,tab1.room⟩
   ·split
    ·exact led1
    ·exact led1
  ·refine wpAny_bind (wpAny_pure ?_)
   simp only [↓reduceIte]
   exact wpAny_mono (tailOk _ tab1 led1) fin fun _ _ z => z
end
end SetM
namespace SetM
open PySem PyProof.Rows
section
variable {prog:Program} {w:World} {K:Type} [DecidableEq K] {knd:KeyKind prog w K}
theorem SetG.at' {h h':Heap} {a:Addr} {ks:List K} (x:SetG knd h a ks) (e:∀ o,h.get? a = some o→h'.get? a = some o):SetG knd h' a ks:=let ⟨o,ho,S⟩:=x; ⟨o,e o ho,S⟩
structure Upto (val:Nat→K) (i:Nat) (ks:List K):Prop where
 mem:∀ x,x ∈ ks ↔ ∃ j,j < i∧val j = x
 len:ks.length ≤ i
theorem Upto.zero (val:Nat→K):Upto val 0 []:=⟨fun x => ⟨fun z => absurd z List.not_mem_nil,fun ⟨j,z,_⟩ => absurd z (Nat.not_lt_zero _)⟩,Nat.le_refl _⟩
theorem Upto.next {val:Nat→K} {i:Nat} {ks ks':List K} (u:Upto val i ks) (pk:ks'.Perm (if val i ∈ ks then ks else ks ++ [val i])):Upto val (i + 1) ks':=by
 refine ⟨fun x => ?_, ?_⟩
 ·rw [pk.mem_iff]
  constructor
  ·intro hx
   have hx':x ∈ ks ∨ x = val i:=by
    split at hx
    ·exact .inl hx
    ·rcases List.mem_append.mp hx with hx | hx
     ·exact .inl hx
     ·exact .inr (List.mem_singleton.mp hx)
   rcases hx' with hx' | hx'
   ·obtain ⟨j,h1,h2⟩:=(u.mem x).mp hx'
    exact ⟨j,by omega,h2⟩
   ·exact ⟨i,by omega,hx'.symm⟩
  ·rintro ⟨j,h1,h2⟩
   by_cases hx:x ∈ ks
   ·split
    ·exact hx
    ·exact List.mem_append_left _ hx
   ·have e:j = i:=by
     rcases Nat.lt_or_ge j i with z | z
     ·exact absurd ((u.mem x).mpr ⟨j,z,h2⟩) hx
     ·omega
    subst e
    rw [h2,if_neg hx]
    exact List.mem_append_right _ (List.mem_singleton_self _)
 ·rw [pk.length_eq]
  have:=u.len
  split
  ·omega
  ·simp only [List.length_append,List.length_singleton]
   omega
variable {A:Around} {R:Result→Shared→Prop} {I:Addr} {fp wr:List Addr} {G:Array GenState→Array GenState→Prop} {n:Nat} {P:Nat→Value→Prop} {St:Nat→Shared→Prop}
theorem fill_loop (W:WalksS prog w A.in1 I fp wr G n P St) {a:Addr} (na:a ∉ fp) {val:Nat→K} (hval:∀ i v,P i v→knd.is (val i) v = true∧v.scannable = true) (hb:n + 1 < scanBound) (i:Nat) (s:Shared) (ks:List K)
  (hi:i ≤ n) (st:St i s) (hS:SetG knd s.heap a ks) (u:Upto val i ks) (fin:∀ s' ks',Moved (a :: wr) G s s'→SetG knd s'.heap a ks'→Upto val n ks'→R (.ok (.ret .none)) s') :
  codeAny (model prog w) A (.builtin "set.update.loop" ⟨[.ref a,.ref I],[]⟩) R s:=by
 have naw:a ∉ wr:=fun z => na (W.sub _ z)
 have more:∀ b ∈ wr,b ∈ a :: wr:=fun b z => List.mem_cons_of_mem _ z
 refine codeAny_builtin PyProof.Rows.F.entry_set_update_loop ?_
 rw [Around.under_plainId PyProof.Rows.F.plain_set_update_loop]
 refine wpAny_bind (m:=pyNext (.ref I)) ?_
 by_cases hlt:i < n
 ·refine W.item i s _ _ hlt st fun v s1 hP st1 mv => ?_
  obtain ⟨hv,hsc⟩:=hval i v hP
  have hS1:SetG knd s1.heap a ks:=hS.at' fun o e => mv.heap a o naw e
  refine wpAny_bind (m:=holding [v] (setAdd a v)) (wpAny_holding ?_)
  unfold setAdd
  refine wpAny_holding (wpAny_bind (knd.pyHash (k:=val i) hv ?_))
  have:=u.len
  refine set_add (knd:=knd) (s:={ s1 with toks:=s1.toks + 1 }) hv hsc hS1 (by omega) fun h2 ks2 sb hS2 pk => wpAny_pure ⟨plainId_quiet PyProof.Rows.F.plain_set_update_loop _, ?_⟩
  refine fill_loop W na hval hb (i + 1) { s1 with heap:=h2,toks:=s1.toks + 1 } ks2 hlt (W.frame _ s1 _ _ st1 (Nat.le_succ _) fun b hb' o e => ?_) hS2 (u.next pk) fun s3 ks3 mv3 hS3 u3 => ?_
  ·rw [sb.2 b fun z => na (z ▸ hb')]
   exact e
  ·refine fin s3 ks3 (Moved.trans W.gtrans ((mv.mono more).then_heap (Nat.le_succ _) fun b o hb' e => ?_) mv3) hS3 u3
   rw [sb.2 b fun z => hb' (z ▸ List.mem_cons_self)]
   exact e
 ·have e:i = n:=by omega
  subst e
  exact W.done s _ _ st fun s1 mv => wpAny_pure (fin s1 ks (mv.mono more) (hS.at' fun o e => mv.heap a o naw e) u)
termination_by n - i
end
section
variable {prog:Program} {w:World} {A:Around} {E:Value→Shared→Prop} {s:Shared}
theorem call_class {T newId initId:String} {args:List Value} {Q:Value→Shared→Prop} (ft:TypeCalled T newId initId) (hct:checkTypeCall T ⟨args,[]⟩ = pure ())
  (h:codeAny (model prog w) A.in1 (.call (.builtin newId) ⟨.type T :: args,[]⟩) (wants (fun obj s1 => s1.TypeIs obj T∧codeAny (model prog w) A.in1 (.call (.builtin initId) ⟨obj :: args,[]⟩) (wants (fun r s2 => r = .none∧Q obj s2) E) s1) E) s) :
  wpAny (model prog w) A (call (.type T) args) Q E s:=by
 have q1:=ft.notType
 have q2:=ft.canCreate
 have q3:=ft.made
 have q4:=ft.sub
 obtain ⟨c,tl,q5⟩:=ft.mro
 apply wpAny_call
 apply codeAny_of_tree
 change wpAny (model prog w) _ (callAny (Value.type T) ⟨args,[]⟩) _ _ s
 refine wpAny_pure (And.intro (Code.quiet_builtin _ (by decide +kernel)) (codeAny_builtin PySem.F.entry_type_call ?_))
 rw [Around.under_plain (weight_type_call_type T args []) (units_type_call_type T args [])]
 repeat (any_goals (first | assumption | wp_step))
 refine codeAny_mono h fun r s1 hr => ?_
 rcases r with e | fl
 ·exact hr
 ·cases fl with
  | ret obj =>
   obtain ⟨hT,hI⟩:=hr
   have q6:=ft.init.lookup
   have q7:=ft.init.bind obj
   repeat (any_goals (first | assumption | wp_step))
   refine codeAny_mono hI fun r2 s2 hr2 => ?_
   rcases r2 with e2 | fl2
   ·exact hr2
   ·cases fl2 with
    | ret r3 =>
     obtain ⟨rfl,q⟩:=hr2
     repeat (any_goals (first | assumption | wp_step))
    | _ => exact hr2.elim
  | _ => exact hr.elim
abbrev setObj (b:Bool):Obj:={ cls:=.type "set",dict:=none,data:=.set #[] 0 (.fresh 0 0 b) }
theorem new_set (x:Value) {Q1:Value→Shared→Prop} (h:Q1 (.ref s.heap.objs.size) { s with heap:=s.heap.push (setObj (!(w.params.followText "set-order"))) }) :
  codeAny (model prog w) A (.call (.builtin "set.__new__") ⟨[.type "set",x],[]⟩) (wants Q1 E) s:=by
 have q:=sub_set_self
 refine codeAny_call_builtin PySem.F.plain_set_new PySem.F.entry_set_new (wpAny_of_eq (PySem.F.newCall_set_1 x) ?_)
 unfold Builtin.«set.__new__» Builtin.Frozenset.newClass
 obtain ⟨hp,gs,dr,tk,so⟩:=s
 dsimp only
 wp_walk
 refine wpAny_askSetting (wpAny_pure ?_)
 dsimp only
 simp only [newObj]
 exact wpAny_bind (wpAny_alloc (wpAny_pure (wpAny_pure h)))
variable {K:Type} [DecidableEq K] {knd:KeyKind prog w K}
set_option maxHeartbeats 4000000 in
theorem call_set {l:Addr} {xs:Array Value} {val:Nat→K} {Q:Value→Shared→Prop} (hh:A.handled = none) (hl:s.heap.IsList l xs) (hx:∀ i v,xs[i]? = some v→knd.is (val i) v = true∧v.scannable = true) (hb:xs.size + 1 < scanBound)
  (fin:∀ (h1:Heap) (tk:Nat) (ks:List K),SetG knd h1 s.heap.objs.size ks→Upto val xs.size ks→(∀ b o,s.heap.get? b = some o→h1.get? b = some o)→Q (.ref s.heap.objs.size) { s with heap:=h1,toks:=tk }) :
  wpAny (model prog w) A (call (.type "set") [.ref l]) Q E s:=by
 refine call_class PySem.F.called_set (PySem.F.typeCall_set_1 (.ref l)) (new_set (.ref l) ?_)
 generalize hb0:(!(w.params.followText "set-order")) = b0
 have at0:(s.heap.push (setObj b0)).get? s.heap.objs.size = some (setObj b0):=Heap.get?_push_size _ rfl
 have ty0:Shared.TypeIs { s with heap:=s.heap.push (setObj b0) } (.ref s.heap.objs.size) "set" := ⟨_,at0,rfl⟩
 refine ⟨ty0,codeAny_call_builtin PySem.F.called_set.init.plain PySem.F.entry_set_init (check_set_init_1 ty0 ?_)⟩
 obtain ⟨⟨c0,d0,dt0,sl0⟩,e0,hc0,n0,hd0⟩:=hl
 simp only at hc0 hd0
 subst hc0 hd0
 have e1:(s.heap.push (setObj b0)).get? l = some ⟨.type "list",d0,.seq xs n0,sl0⟩:=Heap.get?_push_of_some _ e0
 have li:(s.heap.push (setObj b0)).IsList l xs:=⟨_,e1,rfl,n0,rfl⟩
 have u1:=PySem.F.sub_list_set
 have u2:=PySem.F.sub_list_frozenset
 have u3:(Value.type "list" == Value.type "dict") = false:=by decide
 unfold Builtin.«set.__init__» noKeywords Builtin.Frozenset.updateFrom
 generalize hit:pyIter = it
 wp_walk
 subst hit
 have lt0:l < s.heap.objs.size:=Heap.lt_size e0
 have sz:(s.heap.push (setObj b0)).objs.size = s.heap.objs.size + 1:=Heap.size_push _ _
 refine wpAny_pyIter_list li (wpAny_bind (wpAny_runValue ?_))
 refine fill_loop (knd:=knd) (val:=val) ((Walks.list (by simp [hh]) _ l (by rw [sz]; exact Nat.ne_of_lt (Nat.lt_succ_of_lt lt0)) xs).toS) (fun z => (List.mem_cons.mp z).elim (fun z => absurd z (Nat.ne_of_lt (by rw [sz]; exact Nat.lt_succ_self _))) fun z => absurd (List.mem_singleton.mp z) (Nat.ne_of_gt lt0)) hx hb 0 _ [] (Nat.zero_le _) ⟨⟨_,Heap.get?_push_size _ rfl,rfl,rfl⟩,li.push _⟩
  ⟨_,Heap.get?_push_of_some _ at0,⟨⟨rfl,rfl,rfl⟩,⟨#[],0,_,rfl,fun e he => by simp at he,.nil,by unfold scanBound; decide,tab_fresh _ _ _,hb0.symm⟩,List.nodup_nil⟩⟩ (Upto.zero val) ?_
 rintro ⟨h2,g2,d2,tk2,o2⟩ ks mv S2 u
 have x1:g2 = s.gens:=mv.gens
 have x2:d2 = s.drawn:=mv.drawn
 have x3:o2 = s.os:=mv.os
 subst x1 x2 x3
 refine wpAny_pure (wpAny_pure ⟨rfl,fin h2 tk2 ks S2 u fun b o e => mv.heap b o ?_ (Heap.get?_push_of_some _ (Heap.get?_push_of_some _ e))⟩)
 have lb:=Heap.lt_size e
 intro z
 rcases List.mem_cons.mp z with z | z
 ·exact absurd z (Nat.ne_of_lt lb)
 ·have z:=List.mem_singleton.mp z
  rw [sz] at z
  exact absurd z (Nat.ne_of_lt (Nat.lt_succ_of_lt lb))
end
theorem si_next:Slot "set_iterator" "__next__" "set_iterator.__next__" :=
 Slot.of (owner:="set_iterator") (n:="__next__") (by rw [typeLookup_type,builtinLookup_eq_fast]; kernel_rfl) (by decide +kernel) (by decide +kernel) (by decide +kernel) (.inl (by decide +kernel)) (by rw [isSubtype_type]; kernel_rfl)
theorem si_entry:entryFor table "set_iterator.__next__" = some Builtin.«set_iterator.__next__»:=entryFor_of_tree (by kernel_rfl)
theorem si_args (a:Value):argsOk "set_iterator.__next__" ⟨[a],[]⟩:=by unfold argsOk; kernel_rfl
theorem set_iter_entry:entryFor table "set.__iter__" = some Builtin.«frozenset.__iter__»:=entryFor_alias (id':="frozenset.__iter__") (by kernel_rfl) rfl (by decide +kernel) (by kernel_rfl)
theorem erase_perm {α:Type}:∀ (l:List α) (i:Nat) (h:i < l.length),(l[i] :: l.eraseIdx i).Perm l
 | x :: l,0,h => .refl _
 | x :: l,i + 1,h => by
  have ih:=erase_perm l i (by simpa using h)
  simp only [List.getElem_cons_succ,List.eraseIdx_cons_succ]
  exact (List.Perm.swap _ _ _).trans (ih.cons x)
theorem drawOrder_ok {prog:Program} {w:World} {A:Around} {E:Value→Shared→Prop} {α:Type}:∀ (n:Nat) (xs:List α) (s:Shared) (Q:List α→Shared→Prop),xs.length = n→(∀ ys d,ys.Perm xs→Q ys { s with drawn:=d })→wpAny (model prog w) A (drawOrder n xs) Q E s
 | 0,xs,s,Q,hn,h => by
  have e:xs = []:=List.length_eq_zero_iff.mp hn
  subst e
  have q:=h [] s.drawn .nil
  exact wpAny_pure q
 | n + 1,xs,s,Q,hn,h => by
  cases xs with
  | nil => simp at hn
  | cons x0 xr =>
   generalize hx:x0 :: xr = xs at hn h ⊢
   have e:drawOrder (n + 1) xs = (choose .order xs.length >>= fun i => match xs[i]? with | some x => (drawOrder n (xs.eraseIdx i) >>= fun r => pure (x :: r)) | none => unsupported "internal:drawOrder"):=by
    subst hx; rfl
   rw [e]
   refine wpAny_bind ?_
   intro Γ p hΓ
   show Sem.wp _ _ (.choose _ _ _) _ _ _ _
   rw [Sem.wp_choose]
   refine ⟨by omega, ?_⟩
   have lt:=Nat.mod_lt ((model prog w).w.draws .order (s.drawn.get .order)) (show xs.length > 0 by omega)
   generalize (model prog w).w.draws .order (s.drawn.get .order) % xs.length = i at lt ⊢
   rw [Sem.wp_pure]
   have ex:xs[i]? = some xs[i]:=List.getElem?_eq_getElem lt
   dsimp only
   rw [ex]
   refine wpAny_bind (drawOrder_ok n (xs.eraseIdx i) _ _ (by rw [List.length_eraseIdx_of_lt lt]; omega) fun ys d hp => wpAny_pure (h _ _ ((hp.cons _).trans (erase_perm xs i lt))))
inductive Fst (w:World) (a:Addr) (es:Array (Int × Value)) (ep:Nat) (t:SetTable) (h:Heap):Nat→Value→List Value→Prop where
 | byText {i:Nat} {k:Int} {tk:Tok}:w.params.followText "set-order" = true→Fst w a es ep t h i (.int k tk) ((pickOrder (w.params.setOrder a ep) es).toList.map (·.2))
 | drawn {i:Nat} {T:Addr} {c:Nat} {ps:List Nat}:ps.Perm (List.range es.size)→h.get? T = some { cls:=.type "tuple",data:=.seq (ps.map fun (p:Nat) => rawInt p).toArray c } →
   Fst w a es ep t h i (.ref T) (ps.map fun p => (es.getD p (0,.none)).2)
 | plain {i:Nat} {tk:Tok}:w.params.followText "set-order" = false→(!t.plain && es.size > 1) = false→t.led = true→Fst w a es ep t h i (.int (if i = 0 then 0 else ((t.place.getD (i - 1) 0 + 1:Nat):Int)) tk) (es.toList.map (·.2))
abbrev itObj (first:Value) (i:Nat) (a:Addr) (n ep:Nat):Obj:={ cls:=.type "set_iterator",data:=.fields #[first,rawInt i,.ref a,rawInt n,rawInt ep] }
section
variable {prog:Program} {w:World} {A:Around} {E:Value→Shared→Prop} {s:Shared} {a:Addr} {o:Obj} {es:Array (Int × Value)} {ep:Nat} {t:SetTable}
theorem iter_set {Q:Value→Shared→Prop} (ho:s.heap.get? a = some o) (hex:o.ExactSet) (hd:o.data = .set es ep t) (ti:TabI t es.size) (hl:t.led = !(w.params.followText "set-order")) (hb:es.size < scanBound)
  (fin:∀ I first h1 d vs,(∀ b ob,s.heap.get? b = some ob→h1.get? b = some ob)→s.heap.objs.size ≤ I→h1.get? I = some (itObj first 0 a es.size ep)→(∀ T,first = .ref T→T ≠ I∧s.heap.objs.size ≤ T)→Fst w a es ep t h1 0 first vs→Q (.ref I) { s with heap:=h1,drawn:=d }) :
  wpAny (model prog w) A (pyIter (.ref a)) Q E s:=by
 have hT:s.TypeIs (.ref a) "set" := ⟨o,ho,hex.1⟩
 refine wpAny_pyIter_slot hT PySem.F.slot_set_iter (wpAny_call_entry PySem.F.slot_set_iter hT set_iter_entry ?_ (PySem.F.args_set_iter_1 _))
 unfold Builtin.«frozenset.__iter__» Builtin.Frozenset.slot0 slotArgs
 simp only [List.isEmpty_nil,Bool.not_true,Bool.false_eq_true, ↓reduceIte,bind_assoc,List.length_nil,bne_self_eq_false]
 unfold Builtin.Frozenset.addrOf Builtin.Frozenset.sizeOf
 refine wpAny_bind (wpAny_pure ?_)
 dsimp only
 refine wpAny_bind (wpAny_pure ?_)
 refine wpAny_bind (wpAny_bind (wpAny_setEntries_of ho hd ti.fits (wpAny_pure ?_)))
 unfold setDrawn setsByText
 refine wpAny_bind (wpAny_bind (wpAny_setState_of ho hd ti.fits ?_))
 dsimp only
 refine wpAny_bind (wpAny_bind (wpAny_askSetting (wpAny_pure (wpAny_pure ?_))))
 dsimp only
 have eEp:∀ (s1:Shared) {Q1:Nat→Shared→Prop},s1.heap.get? a = some o→Q1 ep s1→wpAny (model prog w) A.in1 (setEpoch a) Q1 E s1:=fun s1 Q1 e q => wpAny_setEpoch_of e hd ti.fits q
 split
 ·rename_i hdr
  refine wpAny_bind (drawOrder_ok _ _ _ _ (List.length_range) fun ps d hp => ?_)
  refine wpAny_bind (wpAny_newTuple ?_ (by rw [List.length_map,hp.length_eq,List.length_range]; exact fits_of_scanBound hb))
  refine wpAny_bind (eEp _ (Heap.get?_push_of_some _ ho) ?_)
  refine wpAny_bind (wpAny_newObj_type (wpAny_pure ⟨_,rfl,"set_iterator",_,⟨_,Heap.get?_push_size _ rfl,rfl⟩,si_next.lookup, ?_⟩))
  refine fin _ (.ref s.heap.objs.size) _ d _ (fun b ob e => Heap.get?_push_of_some _ (Heap.get?_push_of_some _ e)) ?_ (Heap.get?_push_size _ rfl) ?_ (.drawn hp (Heap.get?_push_of_some _ (Heap.get?_push_size _ rfl)))
  ·rw [Heap.size_push]; exact Nat.le_succ _
  ·rintro T e
   cases e
   exact ⟨by rw [Heap.size_push]; exact Nat.ne_of_lt (Nat.lt_succ_self _),Nat.le_refl _⟩
 ·rename_i hdr
  refine wpAny_bind (wpAny_pure (wpAny_bind (eEp _ ho ?_)))
  refine wpAny_bind (wpAny_newObj_type (wpAny_pure ⟨_,rfl,"set_iterator",_,⟨_,Heap.get?_push_size _ rfl,rfl⟩,si_next.lookup, ?_⟩))
  have old:∀ b ob,s.heap.get? b = some ob→(s.heap.push (itObj (rawInt 0) 0 a es.size ep)).get? b = some ob:=fun b ob e => Heap.get?_push_of_some _ e
  cases hbt:w.params.followText "set-order" with
  | true => exact fin s.heap.objs.size (rawInt 0) _ s.drawn _ old (Nat.le_refl _) (Heap.get?_push_size _ rfl) (fun T e => by cases e) (.byText hbt)
  | false =>
   have h1:(!t.plain && decide (es.size > 1)) = false:=by
    have h2:¬ (!false && (!t.plain && decide (es.size > 1))) = true:=by rw [← hbt]; exact hdr
    simpa using h2
   exact fin s.heap.objs.size (rawInt 0) _ s.drawn _ old (Nat.le_refl _) (Heap.get?_push_size _ rfl) (fun T e => by cases e) (.plain hbt h1 (by rw [hl,hbt]; rfl))
end
theorem pick_go {α:Type} (nx:Nat→Nat):∀ (fuel k:Nat) (left:List α) (out:Array α),left.length ≤ fuel→(pickOrder.go nx fuel k left out).toList.Perm (out.toList ++ left)
 | 0,k,left,out,h => by
  have e:left = []:=List.length_eq_zero_iff.mp (by omega)
  subst e
  simp [pickOrder.go]
 | fuel + 1,k,left,out,h => by
  simp only [pickOrder.go]
  cases left with
  | nil => simp
  | cons x0 xr =>
   generalize hx:x0 :: xr = l at h ⊢
   have lt:nx k % l.length < l.length:=Nat.mod_lt _ (by rw [← hx]; simp)
   rw [List.getElem?_eq_getElem lt]
   dsimp only
   refine (pick_go nx fuel (k + 1) _ _ (by rw [List.length_eraseIdx_of_lt lt]; omega)).trans ?_
   rw [Array.toList_push,List.append_assoc]
   exact List.Perm.append_left _ (erase_perm l _ lt)
theorem pick_perm {α:Type} (nx:Nat→Nat) (xs:Array α):(pickOrder nx xs).toList.Perm xs.toList:=by
 have q:=pick_go nx xs.size 0 xs.toList #[] (by simp)
 exact q
theorem range_items (es:Array (Int × Value)):(List.range es.size).map (fun p => (es.getD p (0,.none)).2) = es.toList.map (·.2):=by
 apply List.ext_getElem
 ·simp
 ·intro i h1 h2
  have h3:i < es.size:=by simpa using h1
  simp [h3]
section
variable {w:World} {a:Addr} {es:Array (Int × Value)} {ep:Nat} {t:SetTable} {h:Heap} {i:Nat} {first:Value} {vs:List Value}
theorem Fst.perm (F:Fst w a es ep t h i first vs):vs.Perm (es.toList.map (·.2)):=by
 cases F with
 | byText _ => exact (pick_perm _ _).map _
 | drawn hp _ => rw [← range_items]; exact hp.map _
 | plain _ _ _ => exact .refl _
end
section
variable {prog:Program} {w:World} {A:Around} {E:Value→Shared→Prop} {s:Shared} {a I:Addr} {o:Obj} {es:Array (Int × Value)} {ep:Nat} {t:SetTable} {i:Nat} {first:Value} {vs:List Value}
theorem below_at {xs:Array Nat} (hr:Ris xs) {i:Nat} (hi:i ≤ xs.size):SetTable.below xs (if i = 0 then (0:Int) else ((xs.getD (i - 1) 0 + 1:Nat):Int)).toNat = i:=by
 by_cases h:i = 0
 ·subst h
  rw [if_pos rfl]
  exact below_zero hr
 ·rw [if_neg h,Int.toNat_natCast,getD_in (by omega),below_next hr (by omega)]
  omega
theorem it_put {h:Heap} {n:Nat} {x0 x1 x2 x3 x4:Value} (k:Nat) (v:Value) (hI:h.get? I = some { cls:=.type "set_iterator",data:=.fields #[x0,x1,x2,x3,x4] }) :
  (h.update I (Obj.mapFields (·.setIfInBounds k v))).get? I = some { cls:=.type "set_iterator",data:=.fields (#[x0,x1,x2,x3,x4].setIfInBounds k v) }:=by
 rw [Heap.get?_update_self _ hI rfl]
 rfl
theorem it_else {h:Heap} {f:Obj→Obj} {b:Addr} {ob:Obj} (hb:b ≠ I) (e:h.get? b = some ob):(h.update I f).get? b = some ob:=(Heap.get?_update_other _ _ (Ne.symm hb)).trans e
theorem Fst.heap {h h1:Heap} (F:Fst w a es ep t h i first vs) (k:∀ T,first = .ref T→∀ ob,h.get? T = some ob→h1.get? T = some ob):Fst w a es ep t h1 i first vs:=by
 cases F with
 | byText hb => exact .byText hb
 | drawn hp e => exact .drawn hp (k _ rfl _ e)
 | plain hb hp hl => exact .plain hb hp hl
theorem next_item {v:Value} {Q:Option Value→Shared→Prop} (ho:s.heap.get? a = some o) (hex:o.ExactSet) (hd:o.data = .set es ep t) (ti:TabI t es.size) (hI:s.heap.get? I = some (itObj first i a es.size ep)) (hne:a ≠ I) (hT:∀ T,first = .ref T→T ≠ I)
  (F:Fst w a es ep t s.heap i first vs) (hv:vs[i]? = some v)
  (fin:∀ h1 first',(∀ b ob,b ≠ I→s.heap.get? b = some ob→h1.get? b = some ob)→h1.get? I = some (itObj first' (i + 1) a es.size ep)→(∀ T,first' = .ref T→first = .ref T)→Fst w a es ep t h1 (i + 1) first' vs→Q (some v) { s with heap:=h1 }) :
  wpAny (model prog w) A (pyNext (.ref I)) Q E s:=by
 have hTy:s.TypeIs (.ref I) "set_iterator" := ⟨_,hI,rfl⟩
 unfold pyNext
 refine wpAny_bind (wpAny_attempt (wpAny_callSpecial?_slot (name:=Str.ofString "__next__") hTy si_next (wpAny_call_entry si_next hTy si_entry ?_ (si_args _))))
 unfold Builtin.«set_iterator.__next__» slotArgs
 simp only [List.isEmpty_nil,Bool.not_true,Bool.false_eq_true, ↓reduceIte,bind_assoc,List.length_nil,bne_self_eq_false]
 refine wpAny_bind (wpAny_pure ?_)
 dsimp only
 refine wpAny_bind (wpAny_fieldsOf hI rfl ?_)
 dsimp only [rawInt]
 refine wpAny_bind (wpAny_setEntries_of ho hd ti.fits ?_)
 rw [if_neg (by simp)]
 have two:∀ (nx:Nat) {Q1:Fin→Shared→Prop},(∀ h1,(∀ b ob,b ≠ I→s.heap.get? b = some ob→h1.get? b = some ob)→h1.get? I = some (itObj (.int nx 0) (i + 1) a es.size ep)→Q1 (.done (.ret v)) { s with heap:=h1 }) →
   wpAny (model prog w) A.in1 (do setField (.ref I) 0 (.int nx 0); setField (.ref I) 1 (.int (i + 1) 0); ret v) Q1 (fun e s' => wpAny (model prog w) A (do let b ← isInstance e (.type "StopIteration"); if b = true then pure none else throw e) Q E s') s:=by
  intro nx Q1 q
  refine wpAny_bind (wpAny_setField hI rfl (by simp) ?_)
  have g1:=it_put (n:=es.size) 0 (.int nx 0) hI
  refine wpAny_bind (wpAny_setField g1 rfl (by simp) ?_)
  refine wpAny_pure (q _ (fun b ob hb e => it_else hb (it_else hb e)) ?_)
  have g2:=it_put (n:=es.size) 1 (.int ((i:Int) + 1) 0) g1
  exact g2
 cases F with
 | byText hb =>
  dsimp only
  unfold setNext setsByText
  refine wpAny_bind (wpAny_bind (wpAny_setState_of ho hd ti.fits ?_))
  dsimp only
  refine wpAny_bind (wpAny_bind (wpAny_askSetting (wpAny_pure ?_)))
  dsimp only
  rw [show (model prog w).w.params.followText "set-order" = true from hb]
  simp only [↓reduceIte,Int.toNat_natCast,bne_self_eq_false,Bool.false_eq_true]
  unfold setWalk setsByText
  refine wpAny_bind (wpAny_bind (wpAny_setState_of ho hd ti.fits ?_))
  dsimp only
  refine wpAny_bind (wpAny_bind (wpAny_askSetting (wpAny_pure ?_)))
  dsimp only
  rw [show (model prog w).w.params.followText "set-order" = true from hb]
  simp only [↓reduceIte]
  refine wpAny_bind (wpAny_askSetting (wpAny_pure ?_))
  dsimp only
  rw [List.getElem?_map,Array.getElem?_toList] at hv
  have hv':(pickOrder ((model prog w).w.params.setOrder a ep) es)[i]?.map (·.2) = some v:=hv
  cases hq:(pickOrder ((model prog w).w.params.setOrder a ep) es)[i]? with
  | none => rw [hq] at hv'; cases hv'
  | some e =>
   rw [hq] at hv'
   cases hv'
   refine wpAny_pure ?_
   dsimp only [Option.map_some]
   exact two _ fun h1 k1 g1 => ⟨_,rfl,wpAny_pure (fin h1 _ k1 g1 (fun T z => by cases z) (.byText hb))⟩
 | @drawn T c ps hp hT2 =>
  dsimp only
  refine wpAny_bind (wpAny_seqItems hT2 rfl ?_)
  dsimp only
  rw [List.getElem?_map] at hv
  cases hq:ps[i]? with
  | none => rw [hq] at hv; cases hv
  | some p =>
   rw [hq] at hv
   cases hv
   have hlt:p < es.size:=List.mem_range.mp (hp.mem_iff.mp (List.mem_of_getElem? hq))
   have e1:(List.map (fun (p:Nat) => rawInt p) ps).toArray[((i:Int)).toNat]? = some (.int (p:Int) 0):=by
    simp only [Int.toNat_natCast,List.getElem?_toArray,List.getElem?_map,hq]
    rfl
   rw [e1]
   dsimp only
   unfold setNextDrawn
   refine wpAny_bind (wpAny_bind (wpAny_setState_of ho hd ti.fits ?_))
   dsimp only
   simp only [Int.toNat_natCast,bne_self_eq_false,Bool.false_eq_true, ↓reduceIte,Array.getElem?_eq_getElem hlt]
   refine wpAny_pure ?_
   refine wpAny_bind (wpAny_setField hI rfl (by simp) ?_)
   have g1:=it_put (n:=es.size) 1 (.int ((i:Int) + 1) 0) hI
   have e2:(es.getD p (0,Value.none)).2 = es[p].2:=by simp [hlt]
   refine wpAny_pure ⟨_,rfl,wpAny_pure ?_⟩
   have q:=fin _ _ (fun b ob hb e => it_else hb e) g1 (fun T z => z) (.drawn hp (it_else (hT T rfl) hT2))
   dsimp only at q
   rw [e2] at q
   exact q
 | plain hb hpl hled =>
  dsimp only
  unfold setNext setsByText
  refine wpAny_bind (wpAny_bind (wpAny_setState_of ho hd ti.fits ?_))
  dsimp only
  refine wpAny_bind (wpAny_bind (wpAny_askSetting (wpAny_pure ?_)))
  dsimp only
  rw [show (model prog w).w.params.followText "set-order" = false from hb]
  simp only [↓reduceIte,Int.toNat_natCast,bne_self_eq_false,Bool.false_eq_true]
  rw [if_neg (fun z => by have z':(!t.plain && decide (es.size > 1)) = true:=z; rw [hpl] at z'; cases z')]
  have led0:∀ {Q1:Unit→Shared→Prop} {E1:Value→Shared→Prop},Q1 () s→wpAny (model prog w) A.in1 (if (!t.led && !es.isEmpty) = true then unsupported "set:maker-not-led" else pure ()) Q1 E1 s:=fun q => by
   rw [hled,if_neg (by simp)]
   exact wpAny_pure q
  refine wpAny_bind (led0 ?_)
  rw [List.getElem?_map,Array.getElem?_toList] at hv
  cases hq:es[i]? with
  | none => rw [hq] at hv; cases hv
  | some e =>
   rw [hq] at hv
   cases hv
   have hlt:i < es.size:=(Array.getElem?_eq_some_iff.mp hq).1
   have hlp:i < t.place.size:=by rw [ti.size]; exact hlt
   rw [below_at ti.ris (Nat.le_of_lt hlp),hq,Array.getElem?_eq_getElem hlp]
   refine wpAny_pure ?_
   dsimp only
   refine two _ fun h1 k1 g1 => ⟨_,rfl,wpAny_pure (fin h1 _ k1 g1 (fun T z => by cases z) ?_)⟩
   have q:=Fst.plain (w:=w) (a:=a) (es:=es) (ep:=ep) (t:=t) (h:=h1) (i:=i + 1) (tk:=0) hb hpl hled
   rw [if_neg (Nat.succ_ne_zero i),Nat.add_sub_cancel,getD_in hlp] at q
   exact q
theorem next_end {Q:Option Value→Shared→Prop} (hh:A.handled = none) (ho:s.heap.get? a = some o) (hex:o.ExactSet) (hd:o.data = .set es ep t) (ti:TabI t es.size) (hI:s.heap.get? I = some (itObj first i a es.size ep)) (hne:a ≠ I)
  (F:Fst w a es ep t s.heap i first vs) (hi:i = vs.length)
  (fin:∀ h1,(∀ b ob,b ≠ I→s.heap.get? b = some ob→h1.get? b = some ob)→Q none { s with heap:=h1 }) :
  wpAny (model prog w) A (pyNext (.ref I)) Q E s:=by
 have hTy:s.TypeIs (.ref I) "set_iterator" := ⟨_,hI,rfl⟩
 have hlen:i = es.size:=by rw [hi,F.perm.length_eq,List.length_map,Array.length_toList]
 unfold pyNext
 refine wpAny_bind (wpAny_attempt (wpAny_callSpecial?_slot (name:=Str.ofString "__next__") hTy si_next (wpAny_call_entry si_next hTy si_entry ?_ (si_args _))))
 unfold Builtin.«set_iterator.__next__» slotArgs
 simp only [List.isEmpty_nil,Bool.not_true,Bool.false_eq_true, ↓reduceIte,bind_assoc,List.length_nil,bne_self_eq_false]
 refine wpAny_bind (wpAny_pure ?_)
 dsimp only
 refine wpAny_bind (wpAny_fieldsOf hI rfl ?_)
 dsimp only [rawInt]
 refine wpAny_bind (wpAny_setEntries_of ho hd ti.fits ?_)
 rw [if_neg (by simp)]
 have stop:∀ (h0:Heap) {Q1:Fin→Shared→Prop},(∀ b ob,b ≠ I→s.heap.get? b = some ob→h0.get? b = some ob)→wpAny (model prog w) A.in1 (do let e ← newExc (.type "StopIteration") []; raiseNew e) Q1
   (fun e s' => wpAny (model prog w) A (do let b ← isInstance e (.type "StopIteration"); if b = true then pure none else throw e) Q E s') { s with heap:=h0 }:=by
  intro h0 Q1 k0
  refine wpAny_bind ?_
  simp only [newExc,newTuple]
  refine wpAny_bind (wpAny_newObj_type ?_ (by size_fits))
  refine wpAny_bind (m:=firstArgMember _ _) (wpAny_of_eq (a:=Value.none) (by first | rfl | (simp only [firstArgMember]; rfl)) ?_)
  refine wpAny_newObj_type ?_ (by size_fits)
  simp only [raiseNew]
  refine wpAny_bind (wpAny_handled ?_)
  rw [show A.in1.handled = none from hh]
  refine wpAny_bind (wpAny_pure (wpAny_throw ?_))
  refine wpAny_bind (wpAny_isInstance (T:="StopIteration") (b:=true) ⟨_,Heap.get?_push_size _ rfl,rfl⟩ isSubtype_stop ?_)
  exact wpAny_pure (fin _ fun b ob hb e => Heap.get?_push_of_some _ (Heap.get?_push_of_some _ (k0 b ob hb e)))
 have one:∀ {Q1:Fin→Shared→Prop},wpAny (model prog w) A.in1 (do setField (.ref I) 2 .none; let e ← newExc (.type "StopIteration") []; raiseNew e) Q1
   (fun e s' => wpAny (model prog w) A (do let b ← isInstance e (.type "StopIteration"); if b = true then pure none else throw e) Q E s') s:=by
  intro Q1
  exact wpAny_bind (wpAny_setField hI rfl (by simp) (stop _ fun b ob hb e => it_else hb e))
 cases F with
 | byText hb =>
  dsimp only
  unfold setNext setsByText
  refine wpAny_bind (wpAny_bind (wpAny_setState_of ho hd ti.fits ?_))
  dsimp only
  refine wpAny_bind (wpAny_bind (wpAny_askSetting (wpAny_pure ?_)))
  dsimp only
  rw [show (model prog w).w.params.followText "set-order" = true from hb]
  simp only [↓reduceIte,Int.toNat_natCast,bne_self_eq_false,Bool.false_eq_true]
  unfold setWalk setsByText
  refine wpAny_bind (wpAny_bind (wpAny_setState_of ho hd ti.fits ?_))
  dsimp only
  refine wpAny_bind (wpAny_bind (wpAny_askSetting (wpAny_pure ?_)))
  dsimp only
  rw [show (model prog w).w.params.followText "set-order" = true from hb]
  simp only [↓reduceIte]
  refine wpAny_bind (wpAny_askSetting (wpAny_pure ?_))
  dsimp only
  have no:(pickOrder ((model prog w).w.params.setOrder a ep) es)[i]? = none:=by
   rw [Array.getElem?_eq_none_iff]
   rw [hi,List.length_map,Array.length_toList]
   exact Nat.le_refl _
  rw [no]
  refine wpAny_pure ?_
  exact one
 | @drawn T c ps hp hT2 =>
  dsimp only
  refine wpAny_bind (wpAny_seqItems hT2 rfl ?_)
  dsimp only
  have e1:(List.map (fun (p:Nat) => rawInt p) ps).toArray[((i:Int)).toNat]? = none:=by
   rw [hi]
   simp
  rw [e1]
  dsimp only
  refine wpAny_bind (wpAny_setField hI rfl (by simp) ?_)
  have g1:=it_put (n:=es.size) 0 (.int 0 0) hI
  refine wpAny_bind (wpAny_setField g1 rfl (by simp) ?_)
  exact stop _ fun b ob hb e => it_else hb (it_else hb e)
 | plain hb hpl hled =>
  dsimp only
  unfold setNext setsByText
  refine wpAny_bind (wpAny_bind (wpAny_setState_of ho hd ti.fits ?_))
  dsimp only
  refine wpAny_bind (wpAny_bind (wpAny_askSetting (wpAny_pure ?_)))
  dsimp only
  rw [show (model prog w).w.params.followText "set-order" = false from hb]
  simp only [↓reduceIte,Int.toNat_natCast,bne_self_eq_false,Bool.false_eq_true]
  rw [if_neg (fun z => by have z':(!t.plain && decide (es.size > 1)) = true:=z; rw [hpl] at z'; cases z')]
  have led0:∀ {Q1:Unit→Shared→Prop} {E1:Value→Shared→Prop},Q1 () s→wpAny (model prog w) A.in1 (if (!t.led && !es.isEmpty) = true then unsupported "set:maker-not-led" else pure ()) Q1 E1 s:=fun q => by
   rw [hled,if_neg (by simp)]
   exact wpAny_pure q
  refine wpAny_bind (led0 ?_)
  rw [below_at ti.ris (by rw [ti.size,hlen]; exact Nat.le_refl _),Array.getElem?_eq_none (by rw [hlen]; exact Nat.le_refl _)]
  refine wpAny_pure ?_
  exact one
end
theorem si_iter:Slot "set_iterator" "__iter__" "set_iterator.__iter__" :=
 Slot.of (owner:="set_iterator") (n:="__iter__") (by rw [typeLookup_type,builtinLookup_eq_fast]; kernel_rfl) (by decide +kernel) (by decide +kernel) (by decide +kernel) (.inl (by decide +kernel)) (by rw [isSubtype_type]; kernel_rfl)
theorem si_iter_entry:entryFor table "set_iterator.__iter__" = some Builtin.«dict_keyiterator.__iter__»:=entryFor_alias (id':="dict_keyiterator.__iter__") (by kernel_rfl) rfl (by decide +kernel) (by kernel_rfl)
theorem si_iter_args (a:Value):argsOk "set_iterator.__iter__" ⟨[a],[]⟩:=by unfold argsOk; kernel_rfl
section
variable {prog:Program} {w:World} {A:Around} {E:Value→Shared→Prop} {s:Shared} {a I:Addr} {o:Obj} {es:Array (Int × Value)} {ep:Nat} {t:SetTable} {vs:List Value}
def StI (w:World) (a I:Addr) (o:Obj) (es:Array (Int × Value)) (ep:Nat) (t:SetTable) (Ts:List Addr) (vs:List Value) (i:Nat) (h:Heap):Prop :=
 ∃ first,h.get? I = some (itObj first i a es.size ep)∧h.get? a = some o∧(∀ T,first = .ref T→T ∈ Ts)∧Fst w a es ep t h i first vs
theorem walks_set (hh:A.handled = none) (hex:o.ExactSet) (hd:o.data = .set es ep t) (ti:TabI t es.size) (hne:a ≠ I) (Ts:List Addr) (hTs:I ∉ Ts) :
  Walks prog w A I (I :: a :: Ts) [I] vs.length (fun i v => vs[i]? = some v) (StI w a I o es ep t Ts vs) where
 sub:=fun b hb => by rw [List.mem_singleton.mp hb]; exact List.mem_cons_self
 frame:=fun i h h1 st k => by
  obtain ⟨first,g1,g2,g3,F⟩:=st
  exact ⟨first,k I List.mem_cons_self _ g1,k a (List.mem_cons_of_mem _ List.mem_cons_self) _ g2,g3,F.heap fun T e ob q => k T (List.mem_cons_of_mem _ (List.mem_cons_of_mem _ (g3 T e))) ob q⟩
 item:=fun i s Q E hi st fin => by
  obtain ⟨first,g1,g2,g3,F⟩:=st
  refine next_item g2 hex hd ti g1 hne (fun T e z => hTs (z ▸ g3 T e)) F (List.getElem?_eq_getElem hi) fun h1 first' k1 q1 q2 F1 => ?_
  exact fin _ h1 s.toks (List.getElem?_eq_getElem hi) ⟨first',q1,k1 a o hne g2,fun T e => g3 T (q2 T e),F1⟩ fun b ob hb e => k1 b ob (fun z => hb (by rw [z]; exact List.mem_singleton_self _)) e
 done:=fun s Q E st fin => by
  obtain ⟨first,g1,g2,g3,F⟩:=st
  exact next_end hh g2 hex hd ti g1 hne F rfl fun h1 k1 => fin h1 s.toks fun b ob hb e => k1 b ob (fun z => hb (by rw [z]; exact List.mem_singleton_self _)) e
 self:=fun i s Q E st q => by
  obtain ⟨first,g1,g2,g3,F⟩:=st
  have hTy:s.TypeIs (.ref I) "set_iterator" := ⟨_,g1,rfl⟩
  refine wpAny_pyIter_slot hTy si_iter (wpAny_call_entry si_iter hTy si_iter_entry ?_ (si_iter_args _))
  exact wpAny_pure ⟨_,rfl,"set_iterator",_,hTy,si_next.lookup,q⟩
theorem hint_set (hT:s.TypeIs (.ref a) "set") {Q:Bool→Shared→Prop} (h:Q false s):wpAny (model prog w) A (Builtin.List.listLengthHint (.ref a)) Q E s:=by
 unfold Builtin.List.listLengthHint
 refine wpAny_bind (wpAny_specialOf hT PySem.F.slot_set_len.lookup ?_)
 generalize hid:("set.__len__" : String) = id0
 wp_delta
 rw [show splitId id0 = some ("set","__len__") from by subst hid; decide +kernel]
 subst hid
 refine wpAny_bind (wpAny_isInstance (b:=true) hT sub_set_self (wpAny_ite_split (fun z => absurd z (by decide)) fun _ => wpAny_ite_split (fun _ => ?_) fun z => absurd (by decide +kernel) z))
 exact wpAny_bind (wpAny_typeOf hT (wpAny_pure h))
theorem collect_set {Q:List Value→Shared→Prop} (hh:A.handled = none) (ho:s.heap.get? a = some o) (hex:o.ExactSet) (hd:o.data = .set es ep t) (ti:TabI t es.size) (hl:t.led = !(w.params.followText "set-order")) (hb:es.size < scanBound)
  (fin:∀ (h1:Heap) (tk:Nat) (d:Drawn) (vs:List Value),(∀ b ob,s.heap.get? b = some ob→h1.get? b = some ob)→s.heap.objs.size < h1.objs.size→vs.Perm (es.toList.map (·.2))→Q vs { s with heap:=h1,toks:=tk,drawn:=d }) :
  wpAny (model prog w) A (collect (.ref a)) Q E s:=by
 have alt:=Heap.lt_size ho
 unfold collect
 refine wpAny_bind (wpAny_runValue (codeAny_builtin entry_proto_collect' ?_))
 rw [Around.under_plainId PySem.F.plain_proto_collect]
 refine wpAny_bind (m:=newList []) (wpAny_newObj_type (wpAny_pure ⟨plainId_quiet PySem.F.plain_list_iadd _,codeAny_builtin entry_list_iadd' ?_⟩))
 rw [Around.under_plainId PySem.F.plain_list_iadd]
 generalize hs1:({ s with heap:=s.heap.push { cls:=.type "list",dict:=none,data:=.seq ([]:List Value).toArray } }:Shared) = s1
 change wpAny (model prog w) A.in1 (Builtin.List.listExtendWith (.ref s.heap.objs.size) (.ref a) (.ref s.heap.objs.size)) _ _ _
 have at1:s1.heap.get? s.heap.objs.size = some { cls:=.type "list",dict:=none,data:=.seq #[] 0,slots:=#[] }:=by rw [← hs1]; exact Heap.get?_push_size _ rfl
 have k1:∀ b ob,s.heap.get? b = some ob→s1.heap.get? b = some ob:=fun b ob e => by rw [← hs1]; exact Heap.get?_push_of_some _ e
 have ho1:=k1 a o ho
 have hT1:s1.TypeIs (.ref a) "set" := ⟨o,ho1,hex.1⟩
 unfold Builtin.List.listExtendWith
 refine wpAny_bind (wpAny_typeOf hT1 ?_)
 have n1:Builtin.List.listSameRef (.ref s.heap.objs.size) (.ref a) = false:=by
  simp only [Builtin.List.listSameRef,beq_eq_false_iff_ne]
  exact Nat.ne_of_gt alt
 have n2:(Value.type "set" == Value.type "list") = false:=by decide
 have n3:(Value.type "set" == Value.type "tuple") = false:=by decide
 simp only [n1,n2,n3,Bool.or_false,Bool.false_eq_true,if_false]
 refine wpAny_bind (iter_set ho1 hex hd ti hl hb fun I first h2 d vs k2 hI at2 hf F => ?_)
 generalize hS:s.heap.objs.size = S at *
 have S1:S < s1.heap.objs.size:=Heap.lt_size at1
 obtain ⟨Ts,tin,tout,tall⟩:∃ Ts:List Addr,(∀ T,first = .ref T→T ∈ Ts)∧I ∉ Ts∧∀ T ∈ Ts,s1.heap.objs.size ≤ T:=by
  cases first with
  | ref T => exact ⟨[T],(fun T' e => by cases e; exact List.mem_singleton_self _),fun z => (hf T rfl).1 (List.mem_singleton.mp z).symm,fun T' z => by rw [List.mem_singleton.mp z]; exact (hf T rfl).2⟩
  | _ => exact ⟨[],(fun T e => nomatch e),List.not_mem_nil,fun T z => absurd z List.not_mem_nil⟩
 have aI:a ≠ I:=Nat.ne_of_lt (Nat.lt_of_lt_of_le (Nat.lt_trans alt S1) hI)
 have SI:S ≠ I:=Nat.ne_of_lt (Nat.lt_of_lt_of_le S1 hI)
 have Sfp:S ∉ I :: a :: Ts:=fun z => by
  rcases List.mem_cons.mp z with z | z
  ·exact SI z
  ·rcases List.mem_cons.mp z with z | z
   ·exact Nat.ne_of_gt alt z
   ·exact absurd (Nat.lt_of_lt_of_le S1 (tall S z)) (Nat.lt_irrefl _)
 have hn:vs.length ≤ sizeLine:=by
  rw [F.perm.length_eq,List.length_map,Array.length_toList]
  exact fits_of_scanBound hb
 have W:=walks_set (prog:=prog) (w:=w) (A:=A.in1) (vs:=vs) hh hex hd ti aI Ts tout
 have st2:StI w a I o es ep t Ts vs 0 h2:=⟨first,at2,k2 a o ho1,tin,F⟩
 have key:∀ (h3:Heap) (c:Nat),StI w a I o es ep t Ts vs 0 h3→h3.get? S = some { cls:=.type "list",dict:=none,data:=.seq #[] c,slots:=#[] }→(∀ b ob,s.heap.get? b = some ob→h3.get? b = some ob) →
   codeAny (model prog w) A (.builtin "list.extend.loop" ⟨[.ref S,.ref I,.ref S],[]⟩) (fun r s' => match r with
    | .ok (.ret v) => wpAny (model prog w) A (match v with
      | .ref a => do
       let x ← load a
       match x.data with
        | .seq xs _ => pure xs.toList
        | _ => unsupported "internal:collect"
      | _ => unsupported "internal:collect") Q E s'
    | .ok _ => False
    | .error e => E e s') { heap:=h3,gens:=s1.gens,drawn:=d,toks:=s1.toks,os:=s1.os }:=by
  intro h3 c st3 g3 k3
  refine codeAny_extend_loopS W.toS hn S Sfp (.ref S) vs.length 0 _ #[] c rfl (Nat.zero_le _) st3 g3 (ItemsOf.nil _) fun s4 acc c4 mv g4 items => ?_
  dsimp only
  refine wpAny_bind (wpAny_load g4 ?_)
  dsimp only
  obtain ⟨h4,gg,d4,tk4,o4⟩:=s4
  have x1:gg = s1.gens:=mv.gens
  have x2:d4 = d:=mv.drawn
  have x3:o4 = s1.os:=mv.os
  subst x1 x2 x3
  have ev:acc.toList = vs:=by
   apply List.ext_getElem?
   intro i
   rw [Array.getElem?_toList]
   by_cases hi:i < vs.length
   ·have hi':i < acc.size:=by rw [items.1]; exact hi
    rw [Array.getElem?_eq_getElem hi']
    exact (items.2 i _ (Array.getElem?_eq_getElem hi')).symm
   ·rw [Array.getElem?_eq_none (by rw [items.1]; omega),List.getElem?_eq_none (by omega)]
  rw [ev]
  have q:=fin h4 tk4 d4 vs (fun b ob e => mv.heap b ob (fun z => ?_) (k3 b ob e)) (Heap.lt_size g4) F.perm
  ·rw [← hs1]
   exact wpAny_pure q
  ·have lb:=Heap.lt_size e
   rcases List.mem_cons.mp z with z | z
   ·rw [hS,z] at lb
    exact Nat.lt_irrefl _ lb
   ·rw [List.mem_singleton.mp z,hS] at lb
    exact Nat.lt_irrefl _ (Nat.lt_of_lt_of_le (Nat.lt_trans lb S1) hI)
 have kall:∀ b ob,s.heap.get? b = some ob→h2.get? b = some ob:=fun b ob e => k2 b ob (k1 b ob e)
 have nbS:∀ {b:Addr} {ob:Obj},s.heap.get? b = some ob→b ≠ S:=fun e => Nat.ne_of_lt (hS ▸ Heap.lt_size e)
 refine wpAny_bind (wpAny_holding (hint_set ⟨o,k2 a o ho1,hex.1⟩ ?_))
 refine wpAny_ite_split (fun _ => ?_) (fun _ => wpAny_pure ⟨plainId_quiet PySem.F.plain_extend_loop _,key h2 0 st2 (k2 S _ at1) kall⟩)
 refine wpAny_bind (wpAny_rule (wpAny_bind (m:=Builtin.List.listTouch (.ref S)) ?_))
 change wpAny (model prog w) _ (updateSeq S (·.push .none) >>= fun _ => updateSeq S (·.pop)) _ _ _
 refine wpAny_bind (wpAny_updateSeq (k2 S _ at1) rfl ?_)
 have u1:=Heap.get?_update_self (Obj.mapSeq (·.push Value.none)) (k2 S _ at1) rfl
 refine wpAny_updateSeq (hz:=by seq_fits) u1 rfl ?_
 have u2:=Heap.get?_update_self (Obj.mapSeq (·.pop)) u1 rfl
 have other:∀ b ob,b ≠ S→h2.get? b = some ob→((h2.update S (Obj.mapSeq (·.push Value.none))).update S (Obj.mapSeq (·.pop))).get? b = some ob:=fun b ob z e => (Heap.get?_update_other _ _ (Ne.symm z)).trans ((Heap.get?_update_other _ _ (Ne.symm z)).trans e)
 refine wpAny_pure ⟨plainId_quiet PySem.F.plain_extend_loop _,key _ _ (W.frame 0 _ _ st2 fun b z ob e => other b ob (fun y => Sfp (y ▸ z)) e) u2 fun b ob e => other b ob (nbS e) (kall b ob e)⟩
end
section
variable {prog:Program} {w:World} {K:Type} [DecidableEq K] {knd:PySem.KeyKind prog w K} {A:Around} {E:Value→Shared→Prop} {s:Shared} {a:Addr}
theorem sortedHeap_keep {h:Heap} {l b:Addr} {vs:List Value} {out:Array Value} {ob:Obj} (hb:b ≠ l) (e:h.get? b = some ob):(sortedHeap h l vs out).get? b = some ob:=by
 rw [sortedHeap_old hb (Heap.lt_size e)]
 exact e
theorem paired_map {α β γ:Type} {G:α→γ→Prop} {g:β→γ}:∀ {l:List α} {r:List β},Paired (fun x y => G x (g y)) l r→Paired G l (r.map g)
 | _,_,.nil => .nil
 | _,_,.cons q t => .cons q (paired_map t)
theorem sorted_of_set {ks:List K} {Q:Value→Shared→Prop} (hh:A.handled = none) (hS:SetG knd s.heap a ks)
  (fin:∀ (h1:Heap) (tk:Nat) (d:Drawn) (vs:List Value) (ks1:List K),(∀ b ob,s.heap.get? b = some ob→h1.get? b = some ob)→s.heap.objs.size < h1.objs.size→Paired (fun k v => knd.is k v = true) ks1 vs→ks1.Perm ks →
   wpAny (model prog w) A.in1.in1 (Builtin.«list.sort» ⟨[.ref h1.objs.size],[]⟩) (fun r s2 => r = .done (.ret .none)∧Q (.ref h1.objs.size) s2) E { s with heap:=h1.push (seqObj "list" vs.toArray 0),toks:=tk,drawn:=d }) :
  wpAny (model prog w) A (call (.builtin "sorted") [.ref a]) Q E s:=by
 obtain ⟨o,ho,S⟩:=hS
 obtain ⟨es,ep,t,hd,hel,pr,hb,ti,hl⟩:=S.dat
 refine Calls.call_function_entry kind_sorted plain_sorted entry_sorted (args_sorted1 _) ?_
 unfold Builtin.«sorted»
 refine wpAny_bind (m:=checkCount "sorted" 1 1 _) (wpAny_pure ?_)
 refine wpAny_bind (collect_set hh ho S.ex hd ti hl hb fun h1 tk d vs k1 sz hp => ?_)
 have hn:vs.length ≤ sizeLine:=by
  rw [hp.length_eq,List.length_map,Array.length_toList]
  exact fits_of_scanBound hb
 have pr2:Paired (fun k v => knd.is k v = true) ks (es.toList.map (·.2)):=paired_map pr
 obtain ⟨ks1,pr3,pk⟩:=paired_perm hp pr2
 refine wpAny_bind (wpAny_newList ?_ hn)
 refine wpAny_bind (wpAny_holding ?_)
 have at1:(h1.push (seqObj "list" vs.toArray 0)).get? h1.objs.size = some (seqObj "list" vs.toArray 0):=Heap.get?_push_size _ rfl
 refine wpAny_call_entry slot_list_sort ⟨_,at1,rfl⟩ entry_list_sort ?_ (args_list_sort _)
 refine wpAny_mono (fin h1 tk d vs ks1 k1 sz pr3 pk) (fun r s2 q => ?_) fun _ _ z => z
 obtain ⟨rfl,q⟩:=q
 exact ⟨_,rfl,wpAny_pure ⟨_,rfl,q⟩⟩
theorem ints_of {f:K→Int}:∀ {ks:List K} {vs:List Value},(∀ k v,k ∈ ks→knd.is k v = true→∃ t,v = .int (f k) t)→Paired (fun k v => knd.is k v = true) ks vs→IntsAre vs (ks.map f)
 | _,_,_,.nil => .nil
 | k :: ks,v :: vs,hf,.cons r t => by
  obtain ⟨tk,rfl⟩:=hf k v List.mem_cons_self r
  exact .cons _ _ (ints_of (fun k v hk => hf k v (List.mem_cons_of_mem _ hk)) t)
theorem strs_of {f:K→Str}:∀ {ks:List K} {vs:List Value},(∀ k v,k ∈ ks→knd.is k v = true→∃ t,v = .str (f k) t)→Paired (fun k v => knd.is k v = true) ks vs→StrsAre vs (ks.map f)
 | _,_,_,.nil => .nil
 | k :: ks,v :: vs,hf,.cons r t => by
  obtain ⟨tk,rfl⟩:=hf k v List.mem_cons_self r
  exact .cons _ _ (strs_of (fun k v hk => hf k v (List.mem_cons_of_mem _ hk)) t)
theorem sorted_set_ints {ks:List K} {f:K→Int} {Q:Value→Shared→Prop} (hh:A.handled = none) (hS:SetG knd s.heap a ks) (hf:∀ k v,k ∈ ks→knd.is k v = true→∃ t,v = .int (f k) t) (h64:ks.length < 64)
  (fin:∀ (h1:Heap) (tk:Nat) (d:Drawn) (l:Addr) (out:Array Value) (n:Nat) (ns:List Int),(∀ b ob,s.heap.get? b = some ob→h1.get? b = some ob)→s.heap.objs.size ≤ l→h1.get? l = some (seqObj "list" out n)→IntsAre out.toList ns→ns.Perm (ks.map f)→ns.Pairwise (· ≤ ·)→Q (.ref l) { s with heap:=h1,toks:=tk,drawn:=d }) :
  wpAny (model prog w) A (call (.builtin "sorted") [.ref a]) Q E s:=by
 refine sorted_of_set hh hS fun h1 tk d vs ks1 k1 sz pr pk => ?_
 have hI:=ints_of (fun k v hk => hf k v (pk.mem_iff.mp hk)) pr
 have hlen:vs.length = ks.length:=by rw [← pr.length,pk.length_eq]
 refine list_sort_tree (s:={ s with heap:=h1.push (seqObj "list" vs.toArray 0),toks:=tk,drawn:=d }) (Heap.get?_push_size _ rfl) hI (by omega) fun out ns q1 q2 q3 => ⟨rfl, ?_⟩
 obtain ⟨n,e⟩:=sortedHeap_at (h:=h1.push (seqObj "list" vs.toArray 0)) (a:=h1.objs.size) (vs:=vs) (n:=0) (out:=out) (Heap.get?_push_size _ rfl)
 exact fin _ tk d h1.objs.size out n ns (fun b ob e0 => sortedHeap_keep (Nat.ne_of_lt (Heap.lt_size (k1 b ob e0))) (Heap.get?_push_of_some _ (k1 b ob e0))) (Nat.le_of_lt sz) e q1 (q2.trans (pk.map f)) q3
theorem sorted_set_strs {ks:List K} {f:K→Str} {Q:Value→Shared→Prop} (hh:A.handled = none) (hS:SetG knd s.heap a ks) (hf:∀ k v,k ∈ ks→knd.is k v = true→∃ t,v = .str (f k) t) (h64:ks.length < 64)
  (fin:∀ (h1:Heap) (tk:Nat) (d:Drawn) (l:Addr) (out:Array Value) (n:Nat) (ns:List Str),(∀ b ob,s.heap.get? b = some ob→h1.get? b = some ob)→s.heap.objs.size ≤ l→h1.get? l = some (seqObj "list" out n)→StrsAre out.toList ns→ns.Perm (ks.map f)→sortedS ns = true→Q (.ref l) { s with heap:=h1,toks:=tk,drawn:=d }) :
  wpAny (model prog w) A (call (.builtin "sorted") [.ref a]) Q E s:=by
 refine sorted_of_set hh hS fun h1 tk d vs ks1 k1 sz pr pk => ?_
 have hI:=strs_of (fun k v hk => hf k v (pk.mem_iff.mp hk)) pr
 have hlen:vs.length = ks.length:=by rw [← pr.length,pk.length_eq]
 refine list_sort_treeK strKind_oneLt (s:={ s with heap:=h1.push (seqObj "list" vs.toArray 0),toks:=tk,drawn:=d }) (Heap.get?_push_size _ rfl) hI.keysOf (fun v1 v2 rest e => keyKind_strs (by rw [← e]; exact hI)) (by omega) fun st hp hs => ⟨rfl, ?_⟩
 obtain ⟨ns,q1,q2,q3⟩:=sorted_out_str hI hp hs
 obtain ⟨n,e⟩:=sortedHeap_at (h:=h1.push (seqObj "list" vs.toArray 0)) (a:=h1.objs.size) (vs:=vs) (n:=0) (out:=(arrOf st).map (·.2)) (Heap.get?_push_size _ rfl)
 exact fin _ tk d h1.objs.size _ n ns (fun b ob e0 => sortedHeap_keep (Nat.ne_of_lt (Heap.lt_size (k1 b ob e0))) (Heap.get?_push_of_some _ (k1 b ob e0))) (Nat.le_of_lt sz) e q1 (q2.trans (pk.map f)) q3
end
end SetM
namespace L2
open PySem PySem.Spec PyProof.Rows
def SetHO (P:Program) (w:World) (a:Addr) (us:List Key):HO:=.ext fun h => SetM.SetG (mixKind P w) h a us
theorem scan_kV {P:Program} {w:World} (k:Key) {v:Value} (r:Z6 (kV k) v):(mixKind P w).is k v = true∧v.scannable = true:=by
 cases k with
 | inl i => obtain ⟨t,rfl⟩:=(show ∃ t,v = Value.int i t from r); exact ⟨keyIs_int i t,rfl⟩
 | inr x => obtain ⟨t,rfl⟩:=(show ∃ t,v = Value.str x t from r); exact ⟨keyIs_str x t,rfl⟩
theorem Zn.put {X:Cx} {pins:List (Addr × Obj)} {σ:St} {H:Hp} {s:Shared} {h':Heap} {a:Addr} {o:HO} {t':Nat} {d':Drawn} (I:Zn X pins σ H s) (k:∀ b u,s.heap.get? b = some u→h'.get? b = some u) (hp:s.heap.objs.size ≤ a) (new:Y0 X.prog X.w (Zo H a o) h' a o) :
  Zn X pins σ (Zo H a o) { s with heap:=h',toks:=t',drawn:=d' } :=
 I.call (g':=s.gens) (t':=t') (d':=d') (ch:=[]) (Un.laid k hp (I.hok.fresh hp)) (I.hok.laid k hp new) I.bare fun b z => absurd z List.not_mem_nil
section
variable {X:Cx}
theorem call_setK (hc:X.calm = true):Vi X (.type "set") (fun xs H Q => ∃ (p:Addr) (ks:List Key),xs = [.ref p]∧Yg X.K H p (ks.map kV)∧ks.length + 1 < scanBound ∧
  ∀ (l:Addr) (us:List Key),H l = none→us.Nodup→(∀ x,x ∈ us ↔ x ∈ ks)→us.length ≤ ks.length→Q (.ref l) (Zo H l (SetHO X.prog X.w l us))):=by
 intro pins s σ H xs us Q I r h
 obtain ⟨p,ks,rfl,hq,hz,q⟩:=h
 obtain ⟨u,rfl,rx⟩:=vals1 r
 cases rx
 obtain ⟨its,rv,pl,hzz⟩:=I.list hq
 have hl:its.toArray.size = ks.length:=by rw [List.size_toArray, ← rv.length,List.length_map]
 refine SetM.call_set (knd:=mixKind X.prog X.w) (val:=fun i => ks.getD i (.inl 0)) (I.ok.hd hc) pl.isList (fun i v e => ?_) (by omega) fun h1 tk ws S u k1 => ?_
 ·have e':its[i]? = some v:=by simpa using e
  have hi:i < ks.length:=by
   have:=(List.getElem?_eq_some_iff.mp e').1
   rw [List.size_toArray] at hl
   omega
  have e2:(ks.map kV)[i]? = some (kV ks[i]):=by rw [List.getElem?_map,List.getElem?_eq_getElem hi]; rfl
  obtain ⟨v',g1,g2⟩:=rv.get e2
  rw [e'] at g1
  cases g1
  have e3:ks.getD i (.inl 0) = ks[i]:=by simp [hi]
  rw [e3]
  exact scan_kV _ g2
 ·obtain ⟨o,ho,SO⟩:=id S
  have mem:∀ x,x ∈ ws ↔ x ∈ ks:=fun x => by
   rw [u.mem x,hl]
   constructor
   ·rintro ⟨j,h1,h2⟩
    rw [← h2]
    have e3:ks.getD j (.inl 0) = ks[j]:=by simp [h1]
    rw [e3]
    exact List.getElem_mem h1
   ·intro hx
    obtain ⟨j,h1,h2⟩:=List.mem_iff_getElem.mp hx
    exact ⟨j,h1,by simp [h1,h2]⟩
  refine ⟨.ref s.heap.objs.size,_,I.put (o:=SetHO X.prog X.w s.heap.objs.size ws) (d':=s.drawn) k1 (Nat.le_refl _) ⟨S,⟨o,ho⟩,fun h2 h3 x e => SetM.SetG.at' x e⟩,rfl,q _ ws (I.hok.fresh (Nat.le_refl _)) SO.nd mem ?_⟩
  have:=u.len
  omega
theorem vals_strs:∀ {vs:List Value} {ss:List Str},StrsAre vs ss→Z1 (ss.map V.str) vs
 | _,_,.nil => .nil
 | _,_,.cons y t r => .cons ⟨t,rfl⟩ (vals_strs r)
theorem call_sortedI (hc:X.calm = true):Vi X (.builtin "sorted") (fun xs H Q => ∃ (a:Addr) (zs:List Int),xs = [.ref a]∧H a = some (SetHO X.prog X.w a (zs.map Sum.inl))∧zs.length < 64 ∧
  ∀ (l:Addr) (ns:List Int),H l = none→ns.Perm zs→ns.Pairwise (· ≤ ·)→Q (.ref l) (Zo H l (.lst (ns.map V.int)))):=by
 intro pins s σ H xs us Q I r h
 obtain ⟨a,zs,rfl,hq,hz,q⟩:=h
 obtain ⟨u,rfl,rx⟩:=vals1 r
 cases rx
 obtain ⟨S,_,_⟩:=(show SetM.SetG (mixKind X.prog X.w) s.heap a (zs.map Sum.inl)∧_ from I.hok a _ hq)
 refine SetM.sorted_set_ints (knd:=mixKind X.prog X.w) (f:=fun k => match k with | .inl i => i | .inr _ => 0) (I.ok.hd hc) S (fun k v hk hv => ?_) (by rw [List.length_map]; exact hz) fun h1 tk d l out n ns k1 sz at1 hI pm pw => ?_
 ·obtain ⟨i,_,rfl⟩:=List.mem_map.mp hk
  rcases Ym (show keyIs (Sum.inl i) v = true from hv) with ⟨j,t,e,rfl⟩ | ⟨x,t,e,rfl⟩
  ·cases e; exact ⟨t,rfl⟩
  ·cases e
 ·have pm':ns.Perm zs:=by
   have e:(zs.map (Sum.inl:Int→Key)).map (fun k => match k with | .inl i => i | .inr _ => 0) = zs:=by rw [List.map_map]; exact List.map_id' _
   rw [← e]; exact pm
  refine ⟨.ref l,_,I.put (o:=.lst (ns.map V.int)) k1 sz ⟨?_,out.toList,n,vals_ints hI, ?_⟩,rfl,q l ns (I.hok.fresh sz) pm' pw⟩
  ·rw [List.length_map,pm'.length_eq]
   exact Nat.le_of_lt (Y7 (by omega))
  ·simpa using at1
theorem call_sortedS (hc:X.calm = true):Vi X (.builtin "sorted") (fun xs H Q => ∃ (a:Addr) (zs:List Str),xs = [.ref a]∧H a = some (SetHO X.prog X.w a (zs.map Sum.inr))∧zs.length < 64 ∧
  ∀ (l:Addr) (ns:List Str),H l = none→ns.Perm zs→sortedS ns = true→Q (.ref l) (Zo H l (.lst (ns.map V.str)))):=by
 intro pins s σ H xs us Q I r h
 obtain ⟨a,zs,rfl,hq,hz,q⟩:=h
 obtain ⟨u,rfl,rx⟩:=vals1 r
 cases rx
 obtain ⟨S,_,_⟩:=(show SetM.SetG (mixKind X.prog X.w) s.heap a (zs.map Sum.inr)∧_ from I.hok a _ hq)
 refine SetM.sorted_set_strs (knd:=mixKind X.prog X.w) (f:=fun k => match k with | .inl _ => ("" : Str) | .inr x => x) (I.ok.hd hc) S (fun k v hk hv => ?_) (by rw [List.length_map]; exact hz) fun h1 tk d l out n ns k1 sz at1 hI pm pw => ?_
 ·obtain ⟨x,_,rfl⟩:=List.mem_map.mp hk
  rcases Ym (show keyIs (Sum.inr x) v = true from hv) with ⟨j,t,e,rfl⟩ | ⟨y,t,e,rfl⟩
  ·cases e
  ·cases e; exact ⟨t,rfl⟩
 ·have pm':ns.Perm zs:=by
   have e:(zs.map (Sum.inr:Str→Key)).map (fun k => match k with | .inl _ => ("" : Str) | .inr x => x) = zs:=by rw [List.map_map]; exact List.map_id' _
   rw [← e]; exact pm
  refine ⟨.ref l,_,I.put (o:=.lst (ns.map V.str)) k1 sz ⟨?_,out.toList,n,vals_strs hI, ?_⟩,rfl,q l ns (I.hok.fresh sz) pm' pw⟩
  ·rw [List.length_map,pm'.length_eq]
   exact Nat.le_of_lt (Y7 (by omega))
  ·simpa using at1
end
end L2
namespace ZipL
open PySem PySem.Calls PyProof.Rows PyProof.V PySem.Spec
abbrev ZAt (h:Heap) (z TI TO:Addr) (f0 f1:Value):Prop :=
 h.get? z = some { cls:=.type "zip",dict:=none,data:=.fields #[f0,f1,.bool false,.ref TI,.ref TO],slots:=#[] }
section
variable {prog:Program} {w:World} {A:Around} {E:Value→Shared→Prop} {s:Shared} {z TI TO T i1 i2 l1 l2:Addr} {f:Bool} {oT:Obj} {k1 k2:Nat} {xs ys:Array Value} {x y:Value}
theorem busy {Q:Bool→Shared→Prop} (hz:ZAt s.heap z TI TO (rawInt T) (.bool f)) (hT:s.heap.get? T = some oT)
  (fin:∀ h',ZAt h' z TI TO (rawInt T) (.bool true)→Heap.SameBut z s.heap h'→Q false { s with heap:=h' }) :
  wpAny (model prog w) A (Builtin.SmallTypes.ownedTupleIsFree (.ref z)) Q E s:=by
 unfold Builtin.SmallTypes.ownedTupleIsFree
 refine wpAny_bind (wpAny_field hz rfl (x:=rawInt T) rfl ?_)
 change wpAny _ _ (loadIfAlive ((T:Int).toNat) >>= _) _ _ _
 rw [Int.toNat_natCast]
 refine wpAny_bind (PySem.W.kdx_alive hT ?_)
 simp only [Option.isNone_some,Bool.false_eq_true,if_false]
 refine wpAny_bind (wpAny_field hz rfl (x:=.bool f) rfl ?_)
 cases f with
 | true =>
  have e:(Value.bool true != Value.bool true) = false:=rfl
  rw [e]
  simp only [Bool.false_eq_true,if_false]
  exact wpAny_pure (fin s.heap hz (Heap.SameBut.refl _ _))
 | false =>
  have e:(Value.bool false != Value.bool true) = true:=rfl
  rw [e]
  simp only [if_true]
  refine wpAny_bind (wpAny_setField_rec hz (by simp) fun h' hz' hs' => ?_)
  exact wpAny_pure (fin h' hz' hs')
theorem more_item {Q:Value→Shared→Prop} (D:ZipApart z TI TO i1 i2 l1 l2) (hz:ZAt s.heap z TI TO (rawInt T) (.bool f)) (hT:s.heap.get? T = some oT) (hTI:IsPair s.heap TI (.ref i1) (.ref i2))
  (h1:s.heap.IsListIter i1 l1 k1) (h2:s.heap.IsListIter i2 l2 k2) (hl1:s.heap.IsList l1 xs) (hl2:s.heap.IsList l2 ys) (hx:xs[k1]? = some x) (hy:ys[k2]? = some y)
  (hQ:∀ h',ZAt h' z TI TO (rawInt T) (.bool true)→h'.IsListIter i1 l1 (k1 + 1)→h'.IsListIter i2 l2 (k2 + 1)→IsPair h' s.heap.objs.size x y→h'.objs.size = s.heap.objs.size + 1 →
   (∀ c o,c ≠ z→c ≠ i1→c ≠ i2→s.heap.get? c = some o→h'.get? c = some o)→Q (.ref s.heap.objs.size) { s with heap:=h' }) :
  wpAny (model prog w) A (Builtin.«zip.__next__» ⟨[.ref z],[]⟩) (fun fin s' => ∃ v,fin = .done (.ret v)∧Q v s') E s:=by
 change wpAny _ _ (field (.ref z) 2 >>= _) _ _ _
 refine wpAny_bind (wpAny_field hz rfl (x:=.bool false) rfl ?_)
 change wpAny _ _ (field (.ref z) 3 >>= _) _ _ _
 refine wpAny_bind (wpAny_field hz rfl (x:=.ref TI) rfl ?_)
 refine wpAny_bind (wpAny_seqItems hTI rfl ?_)
 change wpAny _ _ (Builtin.SmallTypes.ownedTupleIsFree (.ref z) >>= _) _ _ _
 refine wpAny_bind (busy hz hT fun g1 z1 s1 => ?_)
 simp only [Bool.false_eq_true,if_false]
 refine wpAny_bind ?_
 simp only [List.forIn_toArray,List.forIn_cons,List.forIn_nil]
 refine wpAny_bind (wpAny_bind (wpAny_holding ?_))
 change wpAny _ _ (Builtin.SmallTypes.nextOf (.ref i1) >>= _) _ _ _
 refine wpAny_bind (wpAny_nextOf_list_item (h1.extBut s1.extBut D.i1z) (hl1.extBut s1.extBut D.l1z) hx fun g2 n1 s2 => wpAny_pure (wpAny_pure ?_))
 dsimp only
 refine wpAny_bind (wpAny_bind (wpAny_holding ?_))
 change wpAny _ _ (Builtin.SmallTypes.nextOf (.ref i2) >>= _) _ _ _
 refine wpAny_bind (wpAny_nextOf_list_item ((h2.extBut s1.extBut D.i2z).extBut s2.extBut D.i12.symm) ((hl2.extBut s1.extBut D.l2z).extBut s2.extBut D.l2i1) hy fun g3 n2 s3 => wpAny_pure (wpAny_pure (wpAny_pure ?_)))
 refine wpAny_bind (wpAny_newTuple (hsz:=by show 2 ≤ sizeLine; decide) (wpAny_pure ⟨_,rfl, ?_⟩))
 have sz:g3.objs.size = s.heap.objs.size:=by rw [s3.1,s2.1,s1.1]
 have zz:ZAt g3 z TI TO (rawInt T) (.bool true):=s3.extBut _ _ D.i2z.symm (s2.extBut _ _ D.i1z.symm z1)
 have kk:∀ c o,c ≠ z→c ≠ i1→c ≠ i2→s.heap.get? c = some o→g3.get? c = some o:=fun c o a b d e => s3.extBut _ _ d (s2.extBut _ _ b (s1.extBut _ _ a e))
 have m1:=n1.extBut s3.extBut D.i12
 change Q (.ref g3.objs.size) _
 rw [sz]
 refine hQ _ (Heap.get?_push_of_some _ zz) (m1.at fun o e => Heap.get?_push_of_some _ e) (n2.at fun o e => Heap.get?_push_of_some _ e) ?_ ?_ fun c o a b d e => Heap.get?_push_of_some _ (kk c o a b d e)
 ·rw [← sz]; exact Heap.get?_push_size _ rfl
 ·rw [Heap.size_push,sz]
theorem more_end {Q:Fin→Shared→Prop} (hh:A.handled = none) (D:ZipApart z TI TO i1 i2 l1 l2) (hz:ZAt s.heap z TI TO (rawInt T) (.bool f)) (hT:s.heap.get? T = some oT) (hTI:IsPair s.heap TI (.ref i1) (.ref i2))
  (h1:s.heap.IsListIter i1 l1 k1) (h2:s.heap.IsListIter i2 l2 k2) (hl1:s.heap.IsList l1 xs) (hl2:s.heap.IsList l2 ys) (hend:xs[k1]? = none ∨ ys[k2]? = none)
  (hE:∀ h' e,(∀ c o,c ≠ z→c ≠ i1→c ≠ i2→s.heap.get? c = some o→h'.get? c = some o)→(∃ o,h'.get? e = some o∧o.cls = .type "StopIteration")→E (.ref e) { s with heap:=h' }) :
  wpAny (model prog w) A (Builtin.«zip.__next__» ⟨[.ref z],[]⟩) Q E s:=by
 change wpAny _ _ (field (.ref z) 2 >>= _) _ _ _
 refine wpAny_bind (wpAny_field hz rfl (x:=.bool false) rfl ?_)
 change wpAny _ _ (field (.ref z) 3 >>= _) _ _ _
 refine wpAny_bind (wpAny_field hz rfl (x:=.ref TI) rfl ?_)
 refine wpAny_bind (wpAny_seqItems hTI rfl ?_)
 change wpAny _ _ (Builtin.SmallTypes.ownedTupleIsFree (.ref z) >>= _) _ _ _
 refine wpAny_bind (busy hz hT fun g1 z1 s1 => ?_)
 simp only [Bool.false_eq_true,if_false]
 refine wpAny_bind ?_
 simp only [List.forIn_toArray,List.forIn_cons,List.forIn_nil]
 refine wpAny_bind (wpAny_bind (wpAny_holding ?_))
 change wpAny _ _ (Builtin.SmallTypes.nextOf (.ref i1) >>= _) _ _ _
 cases hx:xs[k1]? with
 | none =>
  exact wpAny_bind (wpAny_nextOf_list_end hh (h1.extBut s1.extBut D.i1z) (hl1.extBut s1.extBut D.l1z) hx fun g2 e s2 he => hE g2 e (fun c o a b _ q => s2 _ _ b (s1.extBut _ _ a q)) he)
 | some x =>
  have hy:ys[k2]? = none:=hend.resolve_left fun h => by rw [hx] at h; cases h
  refine wpAny_bind (wpAny_nextOf_list_item (h1.extBut s1.extBut D.i1z) (hl1.extBut s1.extBut D.l1z) hx fun g2 n1 s2 => wpAny_pure (wpAny_pure ?_))
  dsimp only
  refine wpAny_bind (wpAny_bind (wpAny_holding ?_))
  change wpAny _ _ (Builtin.SmallTypes.nextOf (.ref i2) >>= _) _ _ _
  exact wpAny_bind (wpAny_nextOf_list_end hh ((h2.extBut s1.extBut D.i2z).extBut s2.extBut D.i12.symm) ((hl2.extBut s1.extBut D.l2z).extBut s2.extBut D.l2i1) hy fun g3 e s3 he =>
   hE g3 e (fun c o a b d q => s3 _ _ d (s2.extBut _ _ b (s1.extBut _ _ a q))) he)
structure ZSt (h:Heap) (z TI TO i1 i2 l1 l2 S:Addr) (xs ys:Array Value) (i:Nat):Prop where
 at0:ZAt h z TI TO .none (.bool false) ∨ ∃ (T:Addr) (f:Bool) (oT:Obj),ZAt h z TI TO (rawInt T) (.bool f)∧h.get? T = some oT∧T ≠ z∧T ≠ TO∧T ≠ i1∧T ≠ i2∧T ≠ S
 ti:IsPair h TI (.ref i1) (.ref i2)
 to:∃ a b,IsPair h TO a b
 it1:h.IsListIter i1 l1 i
 it2:h.IsListIter i2 l2 i
 ls1:h.IsList l1 xs
 ls2:h.IsList l2 ys
theorem ZSt.keep {h h':Heap} {S:Addr} {i:Nat} (q:ZSt h z TI TO i1 i2 l1 l2 S xs ys i) (k:∀ c o,c ≠ S→h.get? c = some o→h'.get? c = some o) (hS:∀ c ∈ [z,TI,TO,i1,i2,l1,l2],c ≠ S):ZSt h' z TI TO i1 i2 l1 l2 S xs ys i where
 at0:=by
  have e:=hS z (by simp)
  rcases q.at0 with a | ⟨T,f,oT,a,b,c⟩
  ·exact .inl (k _ _ e a)
  ·exact .inr ⟨T,f,oT,k _ _ e a,k _ _ c.2.2.2.2 b,c⟩
 ti:=k _ _ (hS TI (by simp)) q.ti
 to:=let ⟨a,b,e⟩:=q.to; ⟨a,b,k _ _ (hS TO (by simp)) e⟩
 it1:=q.it1.at fun o e => k _ o (hS i1 (by simp)) e
 it2:=q.it2.at fun o e => k _ o (hS i2 (by simp)) e
 ls1:=q.ls1.at fun o e => k _ o (hS l1 (by simp)) e
 ls2:=q.ls2.at fun o e => k _ o (hS l2 (by simp)) e
theorem st_item {S:Addr} {i:Nat} {Q:Option Value→Shared→Prop} (D:ZipApart z TI TO i1 i2 l1 l2) (q:ZSt s.heap z TI TO i1 i2 l1 l2 S xs ys i) (hS:S < s.heap.objs.size) (hx:xs[i]? = some x) (hy:ys[i]? = some y)
  (hQ:∀ h',ZSt h' z TI TO i1 i2 l1 l2 S xs ys (i + 1)→IsPair h' s.heap.objs.size x y→h'.objs.size = s.heap.objs.size + 1 →
   (∀ c o,c ≠ z→c ≠ TO→c ≠ i1→c ≠ i2→s.heap.get? c = some o→h'.get? c = some o)→Q (some (.ref s.heap.objs.size)) { s with heap:=h' }) :
  wpAny (model prog w) A (pyNext (.ref z)) Q E s:=by
 have lt:∀ {c o},s.heap.get? c = some o→s.heap.objs.size ≠ c:=fun e => Nat.ne_of_gt (Heap.lt_size e)
 obtain ⟨a,b,hTO⟩:=q.to
 have e1:s.heap.objs.size ≠ i1:=by obtain ⟨_,e,_⟩:=q.it1; exact lt e
 have e2:s.heap.objs.size ≠ i2:=by obtain ⟨_,e,_⟩:=q.it2; exact lt e
 rcases q.at0 with hz | ⟨T,f,oT,hz,hT,t1,t2,t3,t4,t5⟩
 ·refine wpAny_pyNext_zip_item D hz q.ti hTO q.it1 q.it2 q.ls1 q.ls2 hx hy fun h' a1 a2 a3 a4 a5 a6 hk => hQ h' ⟨.inr ⟨_,false,_,a1,a5,lt hz,lt hTO,e1,e2,Nat.ne_of_gt hS⟩, ?_,⟨_,_,a2⟩,a3,a4, ?_, ?_⟩ a5 a6 hk
  ·exact hk _ _ D.TIz D.TITO D.TIi1 D.TIi2 q.ti
  ·exact q.ls1.at fun o e => hk _ o D.l1z D.l1TO D.l1i1 D.l1i2 e
  ·exact q.ls2.at fun o e => hk _ o D.l2z D.l2TO D.l2i1 D.l2i2 e
 ·have ty:s.TypeIs (.ref z) "zip" := ⟨_,hz,rfl⟩
  unfold pyNext
  refine wpAny_bind (wpAny_attempt (wpAny_callSpecial?_slot (name:=Str.ofString "__next__") ty F.slot_zip_next (wpAny_call_entry F.slot_zip_next ty F.entry_zip_next ?_ (F.args_zip_next_1 _))))
  refine more_item D hz hT q.ti q.it1 q.it2 q.ls1 q.ls2 hx hy fun h' a1 a3 a4 a5 a6 hk => wpAny_pure ?_
  refine hQ h' ⟨.inr ⟨T,true,oT,a1,hk _ _ t1 t3 t4 hT,t1,t2,t3,t4,t5⟩, ?_,⟨a,b, ?_⟩,a3,a4, ?_, ?_⟩ a5 a6 fun c o c1 _ c3 c4 e => hk c o c1 c3 c4 e
  ·exact hk _ _ D.TIz D.TIi1 D.TIi2 q.ti
  ·exact hk _ _ D.TOz D.TOi1 D.TOi2 hTO
  ·exact q.ls1.at fun o e => hk _ o D.l1z D.l1i1 D.l1i2 e
  ·exact q.ls2.at fun o e => hk _ o D.l2z D.l2i1 D.l2i2 e
theorem st_done {S:Addr} {i:Nat} {Q:Option Value→Shared→Prop} (hh:A.handled = none) (D:ZipApart z TI TO i1 i2 l1 l2) (q:ZSt s.heap z TI TO i1 i2 l1 l2 S xs ys i) (hend:xs[i]? = none ∨ ys[i]? = none)
  (hQ:∀ h',(∀ c o,c ≠ z→c ≠ TO→c ≠ i1→c ≠ i2→s.heap.get? c = some o→h'.get? c = some o)→Q none { s with heap:=h' }) :
  wpAny (model prog w) A (pyNext (.ref z)) Q E s:=by
 obtain ⟨a,b,hTO⟩:=q.to
 rcases q.at0 with hz | ⟨T,f,oT,hz,hT,t1,t2,t3,t4,t5⟩
 ·exact wpAny_pyNext_zip_end hh D hz q.ti hTO q.it1 q.it2 q.ls1 q.ls2 hend hQ
 ·have ty:s.TypeIs (.ref z) "zip" := ⟨_,hz,rfl⟩
  unfold pyNext
  refine wpAny_bind (wpAny_attempt (wpAny_callSpecial?_slot (name:=Str.ofString "__next__") ty F.slot_zip_next (wpAny_call_entry F.slot_zip_next ty F.entry_zip_next ?_ (F.args_zip_next_1 _))))
  refine more_end hh D hz hT q.ti q.it1 q.it2 q.ls1 q.ls2 hend fun h' e hk he => ?_
  obtain ⟨o,ho,hc⟩:=he
  refine wpAny_bind (wpAny_isInstance (T:="StopIteration") (b:=true) ⟨o,ho,hc⟩ isSubtype_stop ?_)
  exact wpAny_pure (hQ _ fun c o c1 _ c3 c4 e => hk c o c1 c3 c4 e)
end
theorem zip_no_len:typeLookup (.type "zip") "__len__" = pure none:=by rw [typeLookup_type,builtinLookup_eq_fast]; kernel_rfl
theorem zip_no_hint:typeLookup (.type "zip") "__length_hint__" = pure none:=by rw [typeLookup_type,builtinLookup_eq_fast]; kernel_rfl
section
variable {prog:Program} {w:World} {A:Around} {R:Result→Shared→Prop} {E:Value→Shared→Prop} {s:Shared} {z TI TO i1 i2 l1 l2 S:Addr} {xs ys:Array Value}
theorem hint {Q:Bool→Shared→Prop} (hT:s.TypeIs (.ref z) "zip") (h:Q true s):wpAny (model prog w) A (Builtin.List.listLengthHint (.ref z)) Q E s:=by
 unfold Builtin.List.listLengthHint
 refine wpAny_bind (wpAny_specialOf hT zip_no_len ?_)
 wp_delta
 refine wpAny_ite_split (fun z => absurd z (by decide)) fun _ => ?_
 refine wpAny_bind (wpAny_specialOf hT zip_no_hint ?_)
 exact wpAny_pure h
structure Made (h:Heap) (lo:Addr) (xs ys:Array Value) (as:List Addr):Prop where
 rise:as.Pairwise (· < ·)
 above:∀ a ∈ as,lo ≤ a
 pairs:∀ (j:Nat) (a:Addr),as[j]? = some a→∃ x y,xs[j]? = some x∧ys[j]? = some y∧IsPair h a x y
theorem Made.there {h:Heap} {lo:Addr} {as:List Addr} (g:Made h lo xs ys as) {a:Addr} (ha:a ∈ as):a < h.objs.size:=by
 obtain ⟨j,hj⟩:=List.mem_iff_getElem?.mp ha
 obtain ⟨_,_,_,_,e⟩:=g.pairs j a hj
 exact Heap.lt_size e
theorem Made.keep {h h':Heap} {lo:Addr} {as:List Addr} (g:Made h lo xs ys as) (k:∀ c o,lo ≤ c→h.get? c = some o→h'.get? c = some o):Made h' lo xs ys as :=
 ⟨g.rise,g.above,fun j a e => by
  obtain ⟨x,y,e1,e2,e3⟩:=g.pairs j a e
  exact ⟨x,y,e1,e2,k a _ (g.above a (List.mem_of_getElem? e)) e3⟩⟩
theorem Made.more {h:Heap} {lo:Addr} {as:List Addr} {x y:Value} {b:Addr} (g:Made h lo xs ys as) (hb:IsPair h b x y) (up:∀ a ∈ as,a < b) (hl:lo ≤ b) (hx:xs[as.length]? = some x) (hy:ys[as.length]? = some y):Made h lo xs ys (as ++ [b]):=by
 refine ⟨List.pairwise_append.mpr ⟨g.rise,List.pairwise_singleton _ _,fun a ha c hc => by rw [List.mem_singleton.mp hc]; exact up a ha⟩,fun a ha => ?_,fun j a e => ?_⟩
 ·rcases List.mem_append.mp ha with q | q
  ·exact g.above a q
  ·rw [List.mem_singleton.mp q]; exact hl
 ·by_cases hj:j < as.length
  ·rw [List.getElem?_append_left hj] at e
   exact g.pairs j a e
  ·have hj':j = as.length:=by
    have:=(List.getElem?_eq_some_iff.mp e).1
    rw [List.length_append,List.length_singleton] at this
    omega
   subst hj'
   have hba:b = a:=by simpa using e
   subst hba
   exact ⟨x,y,hx,hy,hb⟩
theorem loop (hh:A.handled = none) (D:ZipApart z TI TO i1 i2 l1 l2) (hS:∀ c ∈ [z,TI,TO,i1,i2,l1,l2],c ≠ S) (res:Value) (lo:Addr) (hlo:∀ c ∈ [S,z,TI,TO,i1,i2],c < lo) (hn:xs.size ≤ sizeLine) {h₁:Heap}
  (fin:∀ h' tk acc c as,(∀ b o,b ∉ [S,z,TO,i1,i2]→h₁.get? b = some o→h'.get? b = some o)→h'.get? S = some { cls:=.type "list",dict:=none,data:=.seq acc c,slots:=#[] }→as.length = min xs.size ys.size→Made h' lo xs ys as →
   acc.toList = as.map Value.ref→R (.ok (.ret res)) { s with heap:=h',toks:=tk }) :
  ∀ (k i:Nat) (h:Heap) (tk c:Nat) (acc:Array Value) (as:List Addr),min xs.size ys.size - i = k→i ≤ min xs.size ys.size→ZSt h z TI TO i1 i2 l1 l2 S xs ys i→(∀ b o,b ∉ [S,z,TO,i1,i2]→h₁.get? b = some o→h.get? b = some o) →
   h.get? S = some { cls:=.type "list",dict:=none,data:=.seq acc c,slots:=#[] }→acc.toList = as.map Value.ref→as.length = i→Made h lo xs ys as→lo ≤ h.objs.size →
   codeAny (model prog w) A (.builtin "list.extend.loop" ⟨[.ref S,.ref z,res],[]⟩) R { s with heap:=h,toks:=tk }:=by
 have nb:∀ {b:Addr},b ∉ [S,z,TO,i1,i2]→b ≠ S∧b ≠ z∧b ≠ TO∧b ≠ i1∧b ≠ i2:=fun q => by simpa [not_or] using q
 have nlo:∀ {b:Addr},lo ≤ b→b ≠ S∧b ≠ z∧b ≠ TO∧b ≠ i1∧b ≠ i2:=fun q =>
  have f:∀ c ∈ [S,z,TI,TO,i1,i2],_:=fun c hc => Nat.ne_of_gt (Nat.lt_of_lt_of_le (hlo c hc) q)
  ⟨f S (by simp),f z (by simp),f TO (by simp),f i1 (by simp),f i2 (by simp)⟩
 have Sn:S ≠ z∧S ≠ TO∧S ≠ i1∧S ≠ i2:=⟨(hS z (by simp)).symm,(hS TO (by simp)).symm,(hS i1 (by simp)).symm,(hS i2 (by simp)).symm⟩
 intro k
 induction k with
 | zero =>
  intro i h tk c acc as hk hi st kp hSo hacc hal G hsz
  have hend:xs[i]? = none ∨ ys[i]? = none:=by
   have e:i = min xs.size ys.size:=by omega
   rcases Nat.le_total xs.size ys.size with q | q
   ·exact .inl (Array.getElem?_eq_none (by omega))
   ·exact .inr (Array.getElem?_eq_none (by omega))
  refine codeAny_builtin PySem.F.entry_extend_loop ?_
  rw [Around.under_plainId PySem.F.plain_extend_loop _]
  change wpAny _ A.in1 (pyNext (.ref z) >>= _) _ _ _
  refine wpAny_bind (st_done (s:={ s with heap:=h,toks:=tk }) (A:=A.in1) hh D st hend fun h' he => ?_)
  exact wpAny_pure (fin h' tk acc c as (fun b o q e => he b o (nb q).2.1 (nb q).2.2.1 (nb q).2.2.2.1 (nb q).2.2.2.2 (kp b o q e)) (he S _ Sn.1 Sn.2.1 Sn.2.2.1 Sn.2.2.2 hSo) (by omega)
   (G.keep fun b o q e => he b o (nlo q).2.1 (nlo q).2.2.1 (nlo q).2.2.2.1 (nlo q).2.2.2.2 e) hacc)
 | succ k ih =>
  intro i h tk c acc as hk hi st kp hSo hacc hal G hsz
  have l1':i < xs.size:=by omega
  have l2':i < ys.size:=by omega
  have asz:acc.size = i:=by rw [← Array.length_toList,hacc,List.length_map,hal]
  refine codeAny_builtin PySem.F.entry_extend_loop ?_
  rw [Around.under_plainId PySem.F.plain_extend_loop _]
  change wpAny _ A.in1 (pyNext (.ref z) >>= _) _ _ _
  refine wpAny_bind (st_item (s:={ s with heap:=h,toks:=tk }) (A:=A.in1) D st (Heap.lt_size hSo) (Array.getElem?_eq_getElem l1') (Array.getElem?_eq_getElem l2') fun h' st' ht hz hkp => ?_)
  dsimp only at ht hz hkp ⊢
  have hS':=hkp S _ Sn.1 Sn.2.1 Sn.2.2.1 Sn.2.2.2 hSo
  have up:∀ b o,b ≠ S→h'.get? b = some o→(h'.update S (Obj.mapSeq (·.push (Value.ref h.objs.size)))).get? b = some o:=fun b o hb e => (Heap.get?_update_other _ _ (Ne.symm hb)).trans e
  have hSl:S < h.objs.size:=Heap.lt_size hSo
  change wpAny _ A.in1 (updateSeq S (·.push (Value.ref h.objs.size)) >>= _) _ _ _
  refine wpAny_bind ?_
  have G1:Made (h'.update S (Obj.mapSeq (·.push (Value.ref h.objs.size)))) lo xs ys (as ++ [h.objs.size]):=by
   have g0:Made (h'.update S (Obj.mapSeq (·.push (Value.ref h.objs.size)))) lo xs ys as:=G.keep fun b o q e => up b o (nlo q).1 (hkp b o (nlo q).2.1 (nlo q).2.2.1 (nlo q).2.2.2.1 (nlo q).2.2.2.2 e)
   refine g0.more (up _ _ (Nat.ne_of_gt hSl) ht) (fun a ha => G.there ha) hsz ?_ ?_
   ·rw [hal]; exact Array.getElem?_eq_getElem l1'
   ·rw [hal]; exact Array.getElem?_eq_getElem l2'
  refine wpAny_updateSeq hS' rfl (wpAny_pure ⟨plainId_quiet PySem.F.plain_extend_loop _,ih (i + 1) _ tk _ (acc.push (Value.ref h.objs.size)) (as ++ [h.objs.size]) (by omega) (by omega) (st'.keep (fun c o q e => up c o q e) hS) (fun b o q e => up b o (nb q).1 (hkp b o (nb q).2.1 (nb q).2.2.1 (nb q).2.2.2.1 (nb q).2.2.2.2 (kp b o q e))) (Heap.get?_update_self _ hS' rfl) (by rw [Array.toList_push,hacc,List.map_append]; rfl) (by rw [List.length_append,hal]; rfl) G1 ?_⟩) (by rw [asz]; omega) (by show (acc.push (Value.ref h.objs.size)).size ≤ sizeLine + 1; rw [Array.size_push,asz]; omega)
  exact Nat.le_trans hsz (Nat.le_of_lt (Heap.lt_size (up _ _ (Nat.ne_of_gt hSl) ht)))
theorem extend (hh:A.handled = none) (D:ZipApart z TI TO i1 i2 l1 l2) (hS:∀ c ∈ [z,TI,TO,i1,i2,l1,l2],c ≠ S) (res:Value) (hn:xs.size ≤ sizeLine) {c₀:Nat} (st:ZSt s.heap z TI TO i1 i2 l1 l2 S xs ys 0) (hSo:s.heap.get? S = some { cls:=.type "list",data:=.seq #[] c₀ })
  (fin:∀ h' tk acc c as,(∀ b o,b ∉ [S,z,TO,i1,i2]→s.heap.get? b = some o→h'.get? b = some o)→h'.get? S = some { cls:=.type "list",dict:=none,data:=.seq acc c,slots:=#[] }→as.length = min xs.size ys.size→Made h' s.heap.objs.size xs ys as →
   acc.toList = as.map Value.ref→R (.ok (.ret res)) { s with heap:=h',toks:=tk }) :
  wpAny (model prog w) A.in1 (Builtin.List.listExtendWith (.ref S) (.ref z) res)
   (fun fin s' => match fin with | .done f => R (.ok f) s' | .again c' => c'.quiet = true∧codeAny (model prog w) A c' R s') (fun e s' => R (.error e) s') s:=by
 have zt:∃ f0 f1,ZAt s.heap z TI TO f0 f1:=by
  rcases st.at0 with a | ⟨T,f,oT,a,_⟩
  ·exact ⟨_,_,a⟩
  ·exact ⟨_,_,a⟩
 obtain ⟨f0,f1,hz⟩:=zt
 obtain ⟨ta,tb,hTO⟩:=st.to
 have ty:s.TypeIs (.ref z) "zip" := ⟨_,hz,rfl⟩
 have hlo:∀ c ∈ [S,z,TI,TO,i1,i2],c < s.heap.objs.size:=fun c hc => by
  have a1:=Heap.lt_size hSo
  have a2:=Heap.lt_size hz
  have a3:=Heap.lt_size st.ti
  have a4:=Heap.lt_size hTO
  obtain ⟨_,e1,_⟩:=st.it1
  obtain ⟨_,e2,_⟩:=st.it2
  have a5:=Heap.lt_size e1
  have a6:=Heap.lt_size e2
  simp only [List.mem_cons,List.not_mem_nil,or_false] at hc
  rcases hc with rfl | rfl | rfl | rfl | rfl | rfl <;> assumption
 unfold Builtin.List.listExtendWith
 refine wpAny_bind (wpAny_typeOf ty ?_)
 have n1:Builtin.List.listSameRef (.ref S) (.ref z) = false:=by
  simp only [Builtin.List.listSameRef,beq_eq_false_iff_ne]
  exact (hS z (by simp)).symm
 have n2:(Value.type "zip" == Value.type "list") = false:=by decide
 have n3:(Value.type "zip" == Value.type "tuple") = false:=by decide
 simp only [n1,n2,n3,Bool.or_false,Bool.false_eq_true,if_false]
 have it:∀ {Q:Value→Shared→Prop},Q (.ref z) s→wpAny (model prog w) A.in1 (pyIter (.ref z)) Q (fun e s' => R (.error e) s') s:=fun q => by
  refine wpAny_pyIter_slot ty F.slot_zip_iter (wpAny_call_entry F.slot_zip_iter ty F.entry_zip_iter ?_ (F.args_zip_iter_1 _))
  change wpAny _ _ (ret (.ref z)) _ _ s
  exact wpAny_pure ⟨_,rfl,"zip",_,ty,F.slot_zip_next.lookup,q⟩
 refine wpAny_bind (it ?_)
 refine wpAny_bind (wpAny_holding (hint ty ?_))
 simp only [Bool.true_or,if_true]
 refine wpAny_bind (wpAny_rule (wpAny_bind (m:=Builtin.List.listTouch (.ref S)) ?_))
 change wpAny (model prog w) _ (updateSeq S (·.push .none) >>= fun _ => updateSeq S (·.pop)) _ _ _
 refine wpAny_bind (wpAny_updateSeq hSo rfl ?_)
 have u1:=Heap.get?_update_self (Obj.mapSeq (·.push Value.none)) hSo rfl
 refine wpAny_updateSeq (hz:=by seq_fits) u1 rfl ?_
 have u2:=Heap.get?_update_self (Obj.mapSeq (·.pop)) u1 rfl
 have other:∀ b ob,b ≠ S→s.heap.get? b = some ob→((s.heap.update S (Obj.mapSeq (·.push Value.none))).update S (Obj.mapSeq (·.pop))).get? b = some ob:=fun b ob q e => (Heap.get?_update_other _ _ (Ne.symm q)).trans ((Heap.get?_update_other _ _ (Ne.symm q)).trans e)
 refine wpAny_pure ⟨plainId_quiet PySem.F.plain_extend_loop _, ?_⟩
 exact loop (h₁:=s.heap) (s:=s) hh D hS res s.heap.objs.size hlo hn fin _ 0 _ s.toks _ #[] [] rfl (Nat.zero_le _) (st.keep (fun c o q e => other c o q e) hS) (fun b o q e => other b o (fun e' => q (by rw [e']; exact List.mem_cons_self)) e) u2 rfl rfl
  ⟨List.Pairwise.nil,(fun _ ha => nomatch ha),fun j a hj => by simp at hj⟩ (by rw [Heap.size_update,Heap.size_update]; exact Nat.le_refl _)
theorem call_list {Q:Value→Shared→Prop} (hh:A.handled = none) (D:ZipApart z TI TO i1 i2 l1 l2) (hn:xs.size ≤ sizeLine) (hz:IsZip s.heap z TI TO .none) (hTI:IsPair s.heap TI (.ref i1) (.ref i2)) {a b:Value} (hTO:IsPair s.heap TO a b)
  (h1:s.heap.IsListIter i1 l1 0) (h2:s.heap.IsListIter i2 l2 0) (hl1:s.heap.IsList l1 xs) (hl2:s.heap.IsList l2 ys)
  (fin:∀ h' tk acc c as,(∀ b o,b ∉ [z,TO,i1,i2]→s.heap.get? b = some o→h'.get? b = some o)→h'.get? s.heap.objs.size = some { cls:=.type "list",dict:=none,data:=.seq acc c,slots:=#[] }→as.length = min xs.size ys.size→Made h' (s.heap.objs.size + 1) xs ys as →
   acc.toList = as.map Value.ref→Q (.ref s.heap.objs.size) { s with heap:=h',toks:=tk }) :
  wpAny (model prog w) A (call (.type "list") [.ref z]) Q E s:=by
 have lt:∀ {c o},s.heap.get? c = some o→c ≠ s.heap.objs.size:=fun e => Nat.ne_of_lt (Heap.lt_size e)
 have pu:∀ {c o},s.heap.get? c = some o→(s.heap.push { cls:=.type "list",data:=.seq #[] }).get? c = some o:=fun e => Heap.get?_push_of_some _ e
 have hS:∀ c ∈ [z,TI,TO,i1,i2,l1,l2],c ≠ s.heap.objs.size:=fun c hc => by
  obtain ⟨_,e1,_⟩:=id h1
  obtain ⟨_,e2,_⟩:=id h2
  obtain ⟨_,e3,_⟩:=id hl1
  obtain ⟨_,e4,_⟩:=id hl2
  simp only [List.mem_cons,List.not_mem_nil,or_false] at hc
  rcases hc with rfl | rfl | rfl | rfl | rfl | rfl | rfl
  ·exact lt hz
  ·exact lt hTI
  ·exact lt hTO
  ·exact lt e1
  ·exact lt e2
  ·exact lt e3
  ·exact lt e4
 refine callType_codes (Q₁:=fun obj s₁ => obj = .ref s.heap.objs.size∧s₁ = { s with heap:=s.heap.push { cls:=.type "list",data:=.seq #[] } }) PySem.F.called_list (PySem.F.typeCall_list_1 _) PySem.F.entry_list_init
  (code_list_new _ ⟨rfl,rfl⟩) fun obj s₁ q => ?_
 obtain ⟨rfl,rfl⟩:=q
 have at1:(s.heap.push { cls:=.type "list",data:=.seq #[] }).get? s.heap.objs.size = some { cls:=.type "list",data:=.seq #[] }:=Heap.get?_push_size _ rfl
 refine ⟨⟨_,at1,rfl⟩,PySem.F.args_list_init_2 _ _, ?_⟩
 change wpAny _ _ (do let old ← Builtin.List.listItems (.ref s.heap.objs.size); Builtin.List.listUpdate (.ref s.heap.objs.size) (fun _ => #[]); letGo old.toList.reverse; Builtin.List.listExtendWith (.ref s.heap.objs.size) (.ref z) .none) _ _ _
 refine wpAny_bind ?_
 unfold Builtin.List.listItems
 refine wpAny_bind (wpAny_seqItems at1 rfl (wpAny_pure ?_))
 change wpAny _ _ (updateSeq s.heap.objs.size (fun _ => #[]) >>= fun _ => letGo (#[]:Array Value).toList.reverse >>= fun _ => Builtin.List.listExtendWith (.ref s.heap.objs.size) (.ref z) .none) _ _ _
 refine wpAny_bind (wpAny_updateSeq at1 rfl ?_)
 have at2:=Heap.get?_update_self (Obj.mapSeq (fun _ => (#[]:Array Value))) at1 rfl
 have oth:∀ b o,s.heap.get? b = some o→((s.heap.push { cls:=.type "list",data:=.seq #[] }).update s.heap.objs.size (Obj.mapSeq (fun _ => (#[]:Array Value)))).get? b = some o :=
  fun b o e => (Heap.get?_update_other _ _ (Ne.symm (lt e))).trans (pu e)
 refine wpAny_bind (wpAny_letGo ?_)
 refine extend (A:=A.in1) hh D hS .none hn ⟨.inl (oth _ _ hz),oth _ _ hTI,⟨a,b,oth _ _ hTO⟩,h1.at fun o e => oth _ o e,h2.at fun o e => oth _ o e,hl1.at fun o e => oth _ o e,hl2.at fun o e => oth _ o e⟩ at2 fun h' tk acc c as k1 k2 k3 k4 k5 => ?_
 refine ⟨rfl,fin h' tk acc c as (fun b o q e => k1 b o (fun m => ?_) (oth b o e)) k2 k3 ?_ k5⟩
 ·rcases List.mem_cons.mp m with m | m
  ·exact lt e m
  ·exact q m
 ·have e:((s.heap.push { cls:=.type "list",data:=.seq #[] }).update s.heap.objs.size (Obj.mapSeq (fun _ => (#[]:Array Value)))).objs.size = s.heap.objs.size + 1:=by rw [Heap.size_update,Heap.size_push]
  rw [← e]; exact k4
end
end ZipL
namespace L2
open PySem PySem.Spec PyProof.Rows
section
variable {X:Cx} {pins:List (Addr × Obj)} {σ:St} {H H':Hp} {s:Shared} {h':Heap}
theorem Zn.lays {t':Nat} (I:Zn X pins σ H s) (k:∀ b u,s.heap.get? b = some u→h'.get? b = some u) (old:∀ b,b < s.heap.objs.size→H' b = H b)
  (new:∀ b o,s.heap.objs.size ≤ b→H' b = some o→Y0 X.prog X.w H' h' b o):Zn X pins σ H' { s with heap:=h',toks:=t' }:=by
 have up:∀ b o,H b = some o→H' b = some o:=fun b o e => by rw [old b (I.hok.lt e)]; exact e
 refine I.un ⟨fun b o e _ _ _ => k b o e,fun b o e _ _ _ => ⟨o.slots,k b o e⟩,fun b o e n _ => by rw [old b (Heap.lt_size e)]; exact n,fun b o e _ => ⟨o,k b o e⟩,fun b xs e => up b _ e,fun b o u e => up b _ e,fun b ps e => ⟨#[],by rw [up b _ e]; simp⟩⟩ fun b o e => ?_
 by_cases hb:b < s.heap.objs.size
 ·rw [old b hb] at e
  exact (I.hok b o e).stay (fun c u _ q => k c u q) (fun c q => up c _ q) fun c xs q => up c _ q
 ·exact new b o (Nat.le_of_not_lt hb) e
end
def AtPairs (H:Hp):List Addr→List V→List V→Prop
 | [],xs,ys => xs = [] ∨ ys = []
 | a :: as,xs,ys => ∃ x xr y yr,xs = x :: xr∧ys = y :: yr∧H a = some (.tup [x,y])∧AtPairs H as xr yr
theorem AtPairs.of {H:Hp}:∀ {as:List Addr} {xs ys:List V},as.length = min xs.length ys.length→(∀ (j:Nat) (a:Addr),as[j]? = some a→∃ x y,xs[j]? = some x∧ys[j]? = some y∧H a = some (.tup [x,y]))→AtPairs H as xs ys
 | [],xs,ys,hl,_ => by
  cases xs with
  | nil => exact .inl rfl
  | cons x xr =>
   cases ys with
   | nil => exact .inr rfl
   | cons y yr => simp at hl
 | a :: as,xs,ys,hl,h => by
  cases xs with
  | nil => simp at hl
  | cons x xr =>
   cases ys with
   | nil => simp at hl
   | cons y yr =>
    obtain ⟨x',y',e1,e2,e3⟩:=h 0 a rfl
    simp only [List.getElem?_cons_zero,Option.some.injEq] at e1 e2
    subst e1 e2
    refine ⟨x,xr,y,yr,rfl,rfl,e3,AtPairs.of (by simp only [List.length_cons] at hl; omega) fun j b e => ?_⟩
    obtain ⟨x'',y'',q1,q2,q3⟩:=h (j + 1) b (by simpa using e)
    exact ⟨x'',y'',by simpa using q1,by simpa using q2,q3⟩
def layP (H:Hp) (n:Nat) (l:Addr) (as:List Addr) (xs ys:List V):Hp:=fun b =>
 if b < n then H b else if b = l then some (.lst (as.map V.ref)) else if b ∈ as then some (.tup [xs.getD (as.idxOf b) .non,ys.getD (as.idxOf b) .non]) else none
theorem same_ix {as:List Addr} {i j:Nat} {c:Addr} (r:as.Pairwise (· < ·)) (h:as[i]? = some c) (h':as[j]? = some c):i = j:=by
 obtain ⟨h1,e1⟩:=List.getElem?_eq_some_iff.mp h
 obtain ⟨h2,e2⟩:=List.getElem?_eq_some_iff.mp h'
 have q:=List.pairwise_iff_getElem.mp r
 rcases Nat.lt_trichotomy i j with z | z | z
 ·have:=q i j h1 h2 z
  rw [e1,e2] at this
  exact absurd this (Nat.lt_irrefl _)
 ·exact z
 ·have:=q j i h2 h1 z
  rw [e1,e2] at this
  exact absurd this (Nat.lt_irrefl _)
theorem ix_same {as:List Addr} {j:Nat} {c:Addr} (r:as.Pairwise (· < ·)) (h:as[j]? = some c):as.idxOf c = j:=by
 have m:c ∈ as:=List.mem_of_getElem? h
 have hl:=List.idxOf_lt_length_of_mem m
 exact same_ix r (by rw [List.getElem?_eq_getElem hl,List.getElem_idxOf hl]) h
theorem vals_at:∀ {xs:List V} {us:List Value} {j:Nat} {u:Value},Z1 xs us→us[j]? = some u→Z6 (xs.getD j .non) u
 | _,_,_,_,.nil,e => by simp at e
 | _,_,0,_,.cons r _,e => by simp at e; subst e; exact r
 | _,_,j + 1,_,.cons _ t,e => by
  have:=vals_at (j:=j) t (by simpa using e)
  simpa using this
theorem vals_refs:∀ as:List Addr,Z1 (as.map V.ref) (as.map Value.ref)
 | [] => .nil
 | a :: as => .cons rfl (vals_refs as)
def tZip (K:PySem.W.Frag) (t:TA):TE:=fun σ H Q => t σ H fun vs H1 => ∃ p q xs ys,vs = [.ref p,.ref q]∧Yg K H1 p xs∧Yg K H1 q ys ∧
 ∀ (l:Addr) (as:List Addr) (H':Hp),H1 l = none→Zf H1 H'→H' l = some (.lst (as.map V.ref))→AtPairs H' as xs ys→Q (.ref l) H'
section
variable {X:Cx} {x y:Str} {p p2 pos pos2:Pos} {a b:Expr} {t:TA}
theorem pe_listZip (hc:X.calm = true) (hg:Gl X "list") (hm:X.mg "list" = none) (hgz:Gl X "zip") (hmz:X.mg "zip" = none) (ha:PA X [a,b] t)
  (he:starEach [.Call (.Name "zip" p2) [a,b] [] pos2] X.env = [(false,eval (.Call (.Name "zip" p2) [a,b] [] pos2) X.env)]:=by rfl)
  (he2:starEach [a,b] X.env = (false,eval a X.env) :: starEach [b] X.env:=by rfl) (hpl:(backTo pos2 (starEach [b] X.env)).any (·.1) = false:=by rfl) :
  PE X (.Call (.Name "list" p) [.Call (.Name "zip" p2) [a,b] [] pos2] [] pos) (tZip X.K t):=by
 intro pins s σ H Q I h
 refine wpAny_Call_Name_kw (ld_blt I hg hm (by decide +kernel:bootBuiltins "list" = some (.type "list")) ?_ (by decide) (by decide))
 refine callWith_type1 ?_ he rfl
 rw [he]
 change wpAny _ _ (spliced ((false,eval (.Call (.Name "zip" p2) [a,b] [] pos2) X.env) :: [])) _ _ s
 refine Calls.spliced_cons ?_
 refine wpAny_Call_Name_kw (ld_blt I hgz hmz (by decide +kernel:bootBuiltins "zip" = some (.type "zip")) ?_ (by decide) (by decide))
 refine callWith_type1 (Vx (ha pos2 pins s σ H _ I h) fun us s1 ⟨vs,H1,I1,r1,q1⟩ => ?_) he2 hpl
 obtain ⟨l1,l2,xs,ys,rfl,hx,hy,q⟩:=q1
 obtain ⟨u1,u2,rfl,e1,e2⟩:=vals2 r1
 cases e1
 cases e2
 obtain ⟨is1,v1,pl1,z1⟩:=I1.list hx
 obtain ⟨is2,v2,pl2,z2⟩:=I1.list hy
 have n1:l1 < s1.heap.objs.size:=by obtain ⟨_,e,_⟩:=pl1.isList; exact Heap.lt_size e
 have n2:l2 < s1.heap.objs.size:=by obtain ⟨_,e,_⟩:=pl2.isList; exact Heap.lt_size e
 refine call_zip_2 pl1.isList pl2.isList fun h2 b1 b2 b3 b4 b5 b6 k2 => ?_
 refine Calls.spliced_nil ?_
 refine ZipL.call_list (s:={ s1 with heap:=h2 }) (I1.ok.hd hc) (zipApart_new n1 n2) (by rw [List.size_toArray, ← v1.length]; exact z1) b1 b2 b3 b4 b5 (pl1.isList.at fun o e => k2 _ o e) (pl2.isList.at fun o e => k2 _ o e) fun h3 tk acc cc as k3 at3 al mk hacc => ?_
 dsimp only at at3 mk k3
 rw [b6] at at3 mk
 have kk:∀ c o,s1.heap.get? c = some o→h3.get? c = some o:=fun c o e => by
  refine k3 c o (fun m => ?_) (k2 c o e)
  simp only [List.mem_cons,List.not_mem_nil,or_false] at m
  rcases m with m | m | m | m
  ·exact Nat.ne_of_lt (Nat.lt_of_lt_of_le (Heap.lt_size e) (Nat.le_add_right _ _)) m
  ·exact Nat.ne_of_lt (Nat.lt_of_lt_of_le (Heap.lt_size e) (Nat.le_add_right _ _)) m
  ·exact Nat.ne_of_lt (Heap.lt_size e) m
  ·exact Nat.ne_of_lt (Nat.lt_of_lt_of_le (Heap.lt_size e) (Nat.le_add_right _ _)) m
 have lz:as.length ≤ sizeLine:=by
  rw [al]
  exact Nat.le_trans (Nat.min_le_left _ _) (by rw [List.size_toArray, ← v1.length]; exact z1)
 have new:∀ c o,s1.heap.objs.size ≤ c→layP H1 s1.heap.objs.size (s1.heap.objs.size + 5) as xs ys c = some o→Y0 X.prog X.w (layP H1 s1.heap.objs.size (s1.heap.objs.size + 5) as xs ys) h3 c o:=fun c o hc' e => by
  unfold layP at e
  rw [if_neg (Nat.not_lt_of_le hc')] at e
  by_cases hl:c = s1.heap.objs.size + 5
  ·rw [if_pos hl] at e
   cases e
   refine ⟨by rw [List.length_map]; exact lz,acc.toList,cc, ?_, ?_⟩
   ·rw [hacc]
    exact vals_refs as
   ·rw [hl]
    exact at3
  ·rw [if_neg hl] at e
   by_cases hm':c ∈ as
   ·rw [if_pos hm'] at e
    cases e
    obtain ⟨j,hj⟩:=List.mem_iff_getElem?.mp hm'
    obtain ⟨x,y,g1,g2,g3⟩:=mk.pairs j c hj
    rw [ix_same mk.rise hj]
    refine ⟨by show 2 ≤ sizeLine; decide,[x,y],.cons (vals_at v1 (by simpa using g1)) (.cons (vals_at v2 (by simpa using g2)) .nil),⟨_,g3,rfl,_,rfl⟩⟩
   ·rw [if_neg hm'] at e
    cases e
 have J:=I1.lays (H':=layP H1 s1.heap.objs.size (s1.heap.objs.size + 5) as xs ys) (t':=tk) kk (fun c hc' => by unfold layP; rw [if_pos hc']) new
 have nl:¬ (s1.heap.objs.size + 5 < s1.heap.objs.size):=Nat.not_lt_of_le (Nat.le_add_right _ _)
 refine ⟨.ref (s1.heap.objs.size + 5),_,J,by rw [b6]; rfl,q _ as _ (I1.hok.fresh (Nat.le_add_right _ _)) (fun c o e => ?_) ?_ (AtPairs.of ?_ fun j a hj => ?_)⟩
 ·unfold layP
  rw [if_pos (I1.hok.lt e)]
  exact e
 ·unfold layP
  rw [if_neg nl,if_pos rfl]
 ·rw [al,List.size_toArray,List.size_toArray,v1.length,v2.length]
 ·have ab:=mk.above a (List.mem_of_getElem? hj)
  obtain ⟨x,y,g1,g2,g3⟩:=mk.pairs j a hj
  have c1:j < xs.length:=by rw [v1.length]; have:=(Array.getElem?_eq_some_iff.mp g1).1; simpa using this
  have c2:j < ys.length:=by rw [v2.length]; have:=(Array.getElem?_eq_some_iff.mp g2).1; simpa using this
  refine ⟨xs[j],ys[j],List.getElem?_eq_getElem c1,List.getElem?_eq_getElem c2, ?_⟩
  unfold layP
  have a1:s1.heap.objs.size + 5 < a:=Nat.lt_of_lt_of_le (Nat.lt_succ_self _) ab
  rw [if_neg (Nat.not_lt_of_le (Nat.le_trans (Nat.le_add_right _ _) (Nat.le_of_lt a1))),if_neg (Nat.ne_of_gt a1),if_pos (List.mem_of_getElem? hj),ix_same mk.rise hj,List.getD_eq_getElem?_getD,List.getD_eq_getElem?_getD,List.getElem?_eq_getElem c1,List.getElem?_eq_getElem c2]
  rfl
theorem call_sumI (hc:X.calm = true):Vi X (.builtin "sum") (fun xs H Q => ∃ (p:Addr) (ns:List Int),xs = [.ref p]∧Yg X.K H p (ns.map V.int)∧Q (.int ns.sum) H):=by
 intro pins s σ H xs us Q I r h
 obtain ⟨p,ns,rfl,hq,q⟩:=h
 obtain ⟨u,rfl,rx⟩:=vals1 r
 cases rx
 obtain ⟨its,rv,pl,hz⟩:=I.list hq
 have hi:=intsAre_of rv
 obtain ⟨zs,e⟩:=hi.allInts.items
 have en:(zs.toList.map (·.1)) = ns:=by
  have a:=hi.numsOf
  have b:=nums_intItems zs
  rw [← e] at b
  exact b.symm.trans a
 refine sum_intListG (xs:=zs) (I.ok.hd hc) (by rw [← e]; exact pl.isList) fun h' tk t' hk => ?_
 rw [preSum_eq,List.take_of_length_le (by simp),en]
 exact ⟨.int ns.sum,H,I.kept hk,⟨t',rfl⟩,q⟩
theorem strsAre_of {ss:List Str}:∀ {us:List Value},Z1 (ss.map V.str) us→StrsAre us ss:=by
 induction ss with
 | nil => intro us r; cases r; exact .nil
 | cons x xs ih =>
  intro us r
  cases r with
  | cons e t =>
   obtain ⟨tk,rfl⟩:=e
   exact .cons x tk (ih t)
def rJoin (K:PySem.W.Frag):V→List V→Hp→VK→Prop:=fun x vs H Q => ∃ (sep:Str) (p:Addr) (ss:List Str),x = .str sep∧vs = [.ref p]∧Yg K H p (ss.map V.str)∧(ss.map (·.length)).sum + ss.length * sep.length ≤ 16777216∧Q (.str (Txt.join sep ss)) H
theorem mt_join:MtM X "str.join" (rJoin X.K):=by
 intro pins s σ H x vs v us Q I rx rv h
 obtain ⟨sep,p,ss,rfl,rfl,hq,hz,q⟩:=h
 obtain ⟨t,rfl⟩:=rx
 obtain ⟨u,rfl,ru⟩:=rv.one
 cases ru
 obtain ⟨its,r,pl,_⟩:=I.list hq
 exact join_list pl.isList (strsAre_of r) hz fun t' k => ⟨.str _,H,I.tok _,⟨t',rfl⟩,q⟩
end
def Fn (P:Program) (w:World) (K:PySem.W.Frag) (mg:Str→Option Value) (base:Heap) (k:Nat) (x:Str) (ps:List Str) (sp:Sp):Prop :=
 ∃ f fd,Yd P w K mg base CX0 k f fd ps sp∧Binds K fd ps []∧PySem.W.keepIn K (.ref f) = true∧mg x = some (.ref f)
section
variable {X:Cx} {k:Nat} {x:Str} {ps:List Str} {sp:Sp} {p pos:Pos} {e:Expr} {es:List Expr} {t:TA}
theorem Zw (G:Fn X.prog X.w X.K X.mg X.base k x ps sp) (hr:Vb k X.A) (hg:Gl X x) (ha:PA X (e :: es) t) (hdb:(x == ("__debug__" : Str)) = false:=by decide)
  (he:starEach (e :: es) X.env = (false,eval e X.env) :: starEach es X.env:=by rfl) (hpl:(backTo pos (starEach es X.env)).any (·.1) = false:=by rfl) :
  PE X (.Call (.Name x p) (e :: es) [] pos) (tCall sp [] E0 t):=by
 obtain ⟨f,fd,F,b,kp,m⟩:=G
 exact pe_call F hr hg m kp b .nil pass0 ha hdb he hpl
theorem Yd.any {P:Program} {w:World} {K:PySem.W.Frag} {mg:Str→Option Value} {base:Heap} {CX:CXT} {k:Nat} {f:Addr} {fd:FuncData} {ps:List Str} {ι:Type} {C:ι→Prop} {sp:ι→Sp} (h:∀ i,C i→Yd P w K mg base CX k f fd ps (sp i)) :
  Yd P w K mg base CX k f fd ps (fun vs H Q E => ∃ i,C i∧sp i vs H Q E) :=
 ⟨fun vs H Q E ⟨i,c,q⟩ => (h i c).len vs H Q E q,fun A outer s H args us vs Q E hr he hb hv ⟨i,c,q⟩ => (h i c).run A outer s H args us vs Q E hr he hb hv q⟩
end
def Up (K:PySem.W.Frag) (H H':Hp):Prop:=∀ a xs,Z9 K H a xs→Z9 K H' a xs
theorem Up.refl {K:PySem.W.Frag} (H:Hp):Up K H H:=fun _ _ h => h
theorem Up.trans {K:PySem.W.Frag} {H H1 H2:Hp} (a:Up K H H1) (b:Up K H1 H2):Up K H H2:=fun c xs h => b c xs (a c xs h)
theorem Zf.up {K:PySem.W.Frag} {H H':Hp} (e:Zf H H'):Up K H H':=fun a xs h => by
 rcases h with (h | ⟨o,h⟩) | h
 ·exact .inl (.inl (e _ _ h))
 ·exact .inl (.inr ⟨o,e _ _ h⟩)
 ·exact .inr h
theorem Zf.put {H H1:Hp} {p:Addr} {o:HO} (e:Zf H H1) (h:H p = none):Zf H (Zo H1 p o):=fun b u q => by
 rw [Zt (Zu q h)]; exact e b u q
mutual
def noL:D→Bool
 | .tup xs => noLs xs
 | .lst _ => false
 | _ => true
def noLs:List D→Bool
 | [] => true
 | d :: ds => noL d && noLs ds
end
mutual
theorem Yj.up {K:PySem.W.Frag} {H H':Hp} (u:Up K H H'):∀ (d:D) (v:V),noL d = true→Yj K H d v→Yj K H' d v
 | .non,v,_,h => h
 | .bl b,v,_,h => h
 | .int i,v,_,h => h
 | .str x,v,_,h => h
 | .tup ds,v,n,h => by
  obtain ⟨a,vs,e,q,r⟩:=h
  exact ⟨a,vs,e,u a vs q,Zm.up u ds vs (by simpa [noL] using n) r⟩
 | .lst ds,v,n,h => by simp [noL] at n
theorem Zm.up {K:PySem.W.Frag} {H H':Hp} (u:Up K H H'):∀ (ds:List D) (vs:List V),noLs ds = true→Zm K H ds vs→Zm K H' ds vs
 | [],vs,_,h => h
 | d :: ds,vs,n,h => by
  obtain ⟨v,r,e,q,t⟩:=h
  have n':noL d = true∧noLs ds = true:=by simpa [noLs] using n
  exact ⟨v,r,e,Yj.up u d v n'.1 q,Zm.up u ds r n'.2 t⟩
end
theorem noLs_all:∀ {ds:List D},(∀ d ∈ ds,noL d = true)→noLs ds = true
 | [],_ => rfl
 | d :: ds,h => by
  simp only [noLs,Bool.and_eq_true]
  exact ⟨h d List.mem_cons_self,noLs_all fun e m => h e (List.mem_cons_of_mem _ m)⟩
theorem noLs_mem:∀ {ds:List D} {d:D},noLs ds = true→d ∈ ds→noL d = true
 | e :: ds,d,h,m => by
  have h':noL e = true∧noLs ds = true:=by simpa [noLs] using h
  rcases List.mem_cons.mp m with rfl | m
  ·exact h'.1
  ·exact noLs_mem h'.2 m
theorem Zm.append {K:PySem.W.Frag} {H:Hp}:∀ {ds es:List D} {vs ws:List V},Zm K H ds vs→Zm K H es ws→Zm K H (ds ++ es) (vs ++ ws)
 | [],es,vs,ws,h,h' => by
  have e:vs = []:=h
  subst e
  exact h'
 | d :: ds,es,vs,ws,h,h' => by
  obtain ⟨v,r,e,q,t⟩:=h
  subst e
  exact ⟨v,r ++ ws,rfl,q,Zm.append t h'⟩
theorem Zm.one {K:PySem.W.Frag} {H:Hp} {d:D} {v:V} (h:Yj K H d v):Zm K H [d] [v]:=⟨v,[],rfl,h,rfl⟩
theorem Zm.two {K:PySem.W.Frag} {H:Hp} {d e:D} {v u:V} (h:Yj K H d v) (h':Yj K H e u):Zm K H [d,e] [v,u]:=⟨v,[u],rfl,h,u,[],rfl,h',rfl⟩
theorem Zm.take {K:PySem.W.Frag} {H:Hp}:∀ {ds:List D} {vs:List V} (n:Nat),Zm K H ds vs→Zm K H (ds.take n) (vs.take n)
 | ds,vs,0,_ => rfl
 | [],vs,n + 1,h => by
  have e:vs = []:=h
  subst e
  rfl
 | d :: ds,vs,n + 1,h => by
  obtain ⟨v,r,e,q,t⟩:=h
  subst e
  exact ⟨v,r.take n,rfl,q,Zm.take n t⟩
def Yb:List D→List D→List D
 | a :: as,b :: bs => .tup [a,b] :: Yb as bs
 | _,_ => []
theorem Zm.pairs {K:PySem.W.Frag} {H:Hp}:∀ {as:List Addr} {xs ys:List V} {ds es:List D},AtPairs H as xs ys→Zm K H ds xs→Zm K H es ys→Zm K H (Yb ds es) (as.map V.ref)
 | [],xs,ys,ds,es,h,h1,h2 => by
  rcases (show xs = [] ∨ ys = [] from h) with e | e
  ·subst e
   cases ds with
   | nil => rfl
   | cons d ds => obtain ⟨_,_,e,_⟩:=h1; cases e
  ·subst e
   cases es with
   | nil => cases ds <;> rfl
   | cons d es => obtain ⟨_,_,e,_⟩:=h2; cases e
 | a :: as,xs,ys,ds,es,h,h1,h2 => by
  obtain ⟨x,xr,y,yr,rfl,rfl,ha,ht⟩:=h
  cases ds with
  | nil => cases (show x :: xr = [] from h1)
  | cons d ds =>
   cases es with
   | nil => cases (show y :: yr = [] from h2)
   | cons e es =>
    obtain ⟨_,_,q,i1,t1⟩:=h1
    cases q
    obtain ⟨_,_,q,i2,t2⟩:=h2
    cases q
    exact ⟨.ref a,as.map V.ref,rfl,⟨a,_,rfl,Z9.of ha,Zm.two i1 i2⟩,Zm.pairs ht t1 t2⟩
def Feed (H:Hp) (l:Addr):Prop:=∃ a b c d:Int,H l = some (.lst [.int a,.int b,.int c,.int d])
structure Ye (l:Addr) (H H':Hp):Prop where
 keep:∀ x o,x ≠ l→H x = some o→H' x = some o
 feed:Feed H' l
theorem Ye.refl {l:Addr} {H:Hp} (f:Feed H l):Ye l H H:=⟨fun _ _ _ h => h,f⟩
theorem Ye.trans {l:Addr} {H H1 H2:Hp} (a:Ye l H H1) (b:Ye l H1 H2):Ye l H H2:=⟨fun x o n h => b.keep x o n (a.keep x o n h),b.feed⟩
theorem Ye.free {l:Addr} {H H':Hp} (a:Ye l H H') (f:Feed H l) {p:Addr} (h:H' p = none):H p = none:=by
 cases q:H p with
 | none => rfl
 | some o =>
  by_cases e:p = l
  ·obtain ⟨_,_,_,_,z⟩:=a.feed
   rw [e,z] at h
   cases h
  ·rw [a.keep p o e q] at h
   cases h
theorem Feed.put {l p:Addr} {H:Hp} {o:HO} (f:Feed H l) (h:p ≠ l):Feed (Zo H p o) l:=by
 obtain ⟨a,b,c,d,e⟩:=f
 exact ⟨a,b,c,d,by rw [Zt h.symm]; exact e⟩
theorem Feed.ne {l p:Addr} {H:Hp} (f:Feed H l) (h:H p = none):p ≠ l:=fun e => by
 obtain ⟨a,b,c,d,q⟩:=f
 rw [e,q] at h
 cases h
theorem Ye.put {l p:Addr} {H H':Hp} {o:HO} (a:Ye l H H') (n:p ≠ l) (h:H p = none):Ye l H (Zo H' p o) :=
 ⟨fun x u q e => by rw [Zt (Zu e h)]; exact a.keep x u q e,a.feed.put n⟩
theorem Ye.lay {l p:Addr} {H H':Hp} {o:HO} (a:Ye l H H') (f:Feed H l) (h:H' p = none):Ye l H (Zo H' p o):=a.put (a.feed.ne h) (a.free f h)
theorem Ye.same {l:Addr} {H H1 H2:Hp} (a:Ye l H H1) (b:Zf H1 H2):Ye l H H2 :=
 ⟨fun x o n h => b _ _ (a.keep x o n h),let ⟨x,y,z,u,e⟩:=a.feed; ⟨x,y,z,u,b _ _ e⟩⟩
theorem Ye.up {K:PySem.W.Frag} {l:Addr} {H H':Hp} (a:Ye l H H') (f:Feed H l):Up K H H':=fun c xs h => by
 have ne:∀ o,H c = some o→(∀ ys,o ≠ .lst ys)→c ≠ l:=fun o e n q => by
  obtain ⟨_,_,_,_,z⟩:=f
  rw [q,z] at e
  cases e
  exact n _ rfl
 rcases h with (h | ⟨o,h⟩) | h
 ·exact .inl (.inl (a.keep _ _ (ne _ h fun _ z => nomatch z) h))
 ·exact .inl (.inr ⟨o,a.keep _ _ (ne _ h fun _ z => nomatch z) h⟩)
 ·exact .inr h
theorem Ya {K:PySem.W.Frag} {H:Hp} {p:Addr} {o:HO} (h:H p = none):Up K H (Zo H p o):=Zf.up (fun b u q => by rw [Zt (Zu q h)]; exact q)
theorem up_set {K:PySem.W.Frag} {H:Hp} {p:Addr} {o:HO} {ys:List V} (h:H p = some (.lst ys)):Up K H (Zo H p o):=fun c xs q => by
 have ne:∀ u,H c = some u→(∀ ys,u ≠ .lst ys)→c ≠ p:=fun u e n z => by
  rw [z,h] at e
  cases e
  exact n _ rfl
 rcases q with (q | ⟨u,q⟩) | q
 ·exact .inl (.inl (by rw [Zt (ne _ q fun _ z => nomatch z)]; exact q))
 ·exact .inl (.inr ⟨u,by rw [Zt (ne _ q fun _ z => nomatch z)]; exact q⟩)
 ·exact .inr q
structure Good where
 whole:Int→Prop
 text:Str→Prop
 name:Str→Prop
 num:Int→Prop
 names:List Str→Prop
 nums:List Int→Prop
def Itm (G:Good):Nat→D→Prop
 | 0,_ => False
 | k + 1,d => (∃ n,d = .tup [.str "whole",.int n]∧G.whole n) ∨ (∃ x,d = .tup [.str "text",.str x]∧G.text x) ∨
   (∃ n e,d = .tup [.str "arm",.int n,e]∧G.num n∧Itm G k e) ∨ (∃ es,d = .tup [.str "row",.tup es]∧es.length ≤ 3∧∀ e ∈ es,Itm G k e) ∨
   (∃ ks es,d = .tup [.str "map",.tup (Yb (ks.map D.str) es)]∧ks.length = es.length∧es.length ≤ 3∧G.names ks∧∀ e ∈ es,Itm G k e) ∨
   (∃ ks es,d = .tup [.str "rec",.tup (Yb (ks.map D.int) es)]∧ks.length = es.length∧es.length ≤ 3∧G.nums ks∧∀ e ∈ es,Itm G k e)
theorem noLs_pairs:∀ {as bs:List D},(∀ d ∈ as,noL d = true)→(∀ d ∈ bs,noL d = true)→noLs (Yb as bs) = true
 | [],_,_,_ => by simp [Yb,noLs]
 | _ :: _,[],_,_ => by simp [Yb,noLs]
 | a :: as,b :: bs,h1,h2 => by
  have r:=noLs_pairs (as:=as) (bs:=bs) (fun d m => h1 d (List.mem_cons_of_mem _ m)) fun d m => h2 d (List.mem_cons_of_mem _ m)
  simp only [Yb,noLs,noL,h1 a List.mem_cons_self,h2 b List.mem_cons_self,r,Bool.and_self]
theorem Itm.noL {G:Good}:∀ {k:Nat} {d:D},Itm G k d→noL d = true
 | 0,_,h => h.elim
 | k + 1,d,h => by
  rcases h with ⟨n,rfl,_⟩ | ⟨x,rfl,_⟩ | ⟨n,e,rfl,_,i⟩ | ⟨es,rfl,_,i⟩ | ⟨ks,es,rfl,_,_,_,i⟩ | ⟨ks,es,rfl,_,_,_,i⟩
  ·rfl
  ·rfl
  ·simp only [L2.noL,noLs,Bool.true_and,Bool.and_true]; exact Itm.noL i
  ·simp only [L2.noL,noLs,Bool.true_and,Bool.and_true]; exact noLs_all fun e m => Itm.noL (i e m)
  ·simp only [L2.noL,noLs,Bool.true_and,Bool.and_true]
   refine noLs_pairs (fun d m => ?_) fun e m => Itm.noL (i e m)
   obtain ⟨x,_,rfl⟩:=List.mem_map.mp m
   rfl
  ·simp only [L2.noL,noLs,Bool.true_and,Bool.and_true]
   refine noLs_pairs (fun d m => ?_) fun e m => Itm.noL (i e m)
   obtain ⟨x,_,rfl⟩:=List.mem_map.mp m
   rfl
theorem Itm.noLs {G:Good} {k:Nat} {ds:List D} (h:∀ d ∈ ds,Itm G k d):noLs ds = true:=noLs_all fun d m => (h d m).noL
section
variable {X:Cx}
theorem Zg (i:Nat) {x:Str} {e:Expr} {te:TE} {pos pos':Pos} (hN:X.N.Nodup) (hi:X.N[i]? = some x) (hx:Loc X.env.scope x) (he:PE X e te)
  (hs:swapsWith e (some (.Name x pos')) pos.line X.env = pure false:=by rfl) (hf:X.fn x = true ∨ X.env.scope.names.lookup x = some .local:=by first | exact .inl rfl | exact .inr rfl | assumption) :
  PS X (.Assign [.Name x pos'] e pos) (tAsg te (gName i)):=ps_set hN hi hx he hs hf
theorem Zh (i:Nat) {x:Str} {pos:Pos} (hN:X.N.Nodup) (hi:X.N[i]? = some x) (hx:Loc X.env.scope x)
  (hf:X.fn x = true ∨ X.env.scope.names.lookup x = some .local:=by first | exact .inl rfl | exact .inr rfl | assumption):PG X (.Name x pos) (gName i):=pg_name hN hi hx hf
theorem Yo {x:Str} {C:Addr} {pos:Pos} (hg:Gl X x) (hm:X.mg x = some (.ref C)) (hd:(x == ("__debug__" : Str)) = false:=by decide):PE X (.Name x pos) (tC (.ref C)):=pe_glob hg hm rfl hd
theorem pe_bltnT {T:String} {x:Str} {pos:Pos} (hg:Gl X x) (hm:X.mg x = none) (hv:bootBuiltins x = some (.type T)) (hn:x ≠ "__name__" := by decide) (hd:(x == ("__debug__" : Str)) = false:=by decide) :
  PE X (.Name x pos) (tC (.ty T)):=pe_bltn hg hm hv rfl hn hd
theorem Y6 (NX:List Str) (outer:Scope) (N:List Str) (fr:List (Option Nat)) {scope:Scope} {tg elt iter:Expr} {ifs:List Expr} {pos:Pos} {wi:TI} {g:DG} {tt:DT} {te:DE} (hc:X.calm = true) (hi:PI X tg iter wi)
  (C:CompFr X NX outer scope N fr) (hg:∀ fp s H,PG (Ys X scope N fp s H) tg (g fp s H)) (ht:∀ fp s H,PTs (Ys X scope N fp s H) ifs (tt fp s H)) (he:∀ fp s H,PE (Ys X scope N fp s H) elt (te fp s H))
  (hs:∀ x,foldedSetIterable iter X.env x = pure x:=by intro _; rfl):PE X (.ListComp elt [⟨tg,iter,ifs,0⟩] scope pos) (tComp wi fr g tt te):=pe_comp hc hi C hg ht he hs
theorem ps_setCompI (i:Nat) (NX:List Str) (outer:Scope) (N:List Str) (fr:List (Option Nat)) {scope:Scope} {tg elt iter:Expr} {ifs:List Expr} {pos pos' pos2:Pos} {wi:TI} {g:DG} {tt:DT} {te:DE} {x:Str} (hN:X.N.Nodup) (hix:X.N[i]? = some x)
  (hx:Loc X.env.scope x) (hc:X.calm = true) (hi:PI X tg iter wi) (C:CompFr X NX outer scope N fr) (hg:∀ fp s H,PG (Ys X scope N fp s H) tg (g fp s H)) (ht:∀ fp s H,PTs (Ys X scope N fp s H) ifs (tt fp s H))
  (he:∀ fp s H,PE (Ys X scope N fp s H) elt (te fp s H)) (hsw:swapsWith (.ListComp elt [⟨tg,iter,ifs,0⟩] scope pos) (some (.Name x pos')) pos2.line X.env = pure true:=by rfl)
  (hs:∀ x,foldedSetIterable iter X.env x = pure x:=by intro _; rfl) (hf:X.fn x = true ∨ X.env.scope.names.lookup x = some .local:=by first | exact .inl rfl | exact .inr rfl | assumption) :
  PS X (.Assign [.Name x pos'] (.ListComp elt [⟨tg,iter,ifs,0⟩] scope pos) pos2) (tAsg (tComp wi fr g tt te) (gName i)):=ps_setComp hN hix hx hc hi C hg ht he hsw hs hf
end
end L2
namespace DctE
open PySem PySem.SeqAt PySem.MeetsSeq
open PySem.AutoSeq1 (wpAny_loadPart')
end DctE
namespace L2
open PySem PySem.Spec PyProof.Rows
section
variable {X:Cx} {pins:List (Addr × Obj)} {σ:St} {H H':Hp} {s:Shared} {h':Heap}
theorem Zn.turnLay {t':Nat} {fp:List Addr} {a:Addr} {o:HO} (I:Zn X pins σ H s) (k:∀ b u,b ∉ fp→s.heap.get? b = some u→h'.get? b = some u) (hf:∀ b ∈ fp,FpOk X pins H b) (hp:s.heap.objs.size ≤ a) (new:Y0 X.prog X.w (Zo H a o) h' a o) :
  Zn X pins σ (Zo H a o) { s with heap:=h',toks:=t' }:=by
 have hn:=I.hok.fresh hp
 have nf:∀ b u,H b = some u→b ∉ fp:=fun b u e m => by
  have z:=(hf b m).1
  rw [e] at z
  cases z
 have na:∀ b u,s.heap.get? b = some u→b ≠ a:=fun b u e => Nat.ne_of_lt (Nat.lt_of_lt_of_le (Heap.lt_size e) hp)
 refine I.call (g':=s.gens) (d':=s.drawn) (ch:=fp) ⟨fun b u e _ _ hx => k b u hx e,fun b u e _ _ hx => ⟨u.slots,k b u hx e⟩,fun b u e n _ => by rw [Zt (na b u e)]; exact n,fun b u e hx => ⟨u,k b u hx e⟩,
  fun b xs e => by rw [Zt (Zu e hn)]; exact e,fun b ob u e => by rw [Zt (Zu e hn)]; exact e,fun b ps e => ⟨#[],by rw [Zt (Zu e hn)]; simp [e]⟩⟩ (fun b u e => ?_) I.bare
  fun b hb => ⟨(hf b hb).2.2.2.1,(hf b hb).2.1,(hf b hb).2.2.2.2.1,(hf b hb).2.2.2.2.2⟩
 by_cases hb:b = a
 ·subst hb
  rw [Zq] at e
  cases e
  exact new
 ·rw [Zt hb] at e
  refine (I.hok b u e).stay (fun c v hc q => k c v ?_ q) (fun c q => by rw [Zt (Zu q hn)]; exact q) fun c xs q => by rw [Zt (Zu q hn)]; exact q
  rcases hc with z | z
  ·rw [z]; exact nf b u e
  ·exact nf c _ z
theorem Zn.turnL {t':Nat} {fp:List Addr} (I:Zn X pins σ H s) (k:∀ b u,b ∉ fp→s.heap.get? b = some u→h'.get? b = some u) (hf:∀ b ∈ fp,FpOk X pins H b) :
  Zn X pins σ H { s with heap:=h',toks:=t' }:=by
 have nf:∀ b u,H b = some u→b ∉ fp:=fun b u e m => by
  have z:=(hf b m).1
  rw [e] at z
  cases z
 refine I.call (g':=s.gens) (d':=s.drawn) (ch:=fp) ⟨fun b u e _ _ hx => k b u hx e,fun b u e _ _ hx => ⟨u.slots,k b u hx e⟩,fun b u e n _ => n,fun b u e hx => ⟨u,k b u hx e⟩,
  fun b xs e => e,fun b ob u e => e,fun b ps e => ⟨#[],by simp [e]⟩⟩ (fun b u e => ?_) I.bare
  fun b hb => ⟨(hf b hb).2.2.2.1,(hf b hb).2.1,(hf b hb).2.2.2.2.1,(hf b hb).2.2.2.2.2⟩
 refine (I.hok b u e).stay (fun c v hc q => k c v ?_ q) (fun c q => q) fun c xs q => q
 rcases hc with z | z
 ·rw [z]; exact nf b u e
 ·exact nf c _ z
end
section
variable {X:Cx} {pos:Pos}
end
def Its (x:Str):It:=⟨fun i _ => i < x.cps.size,fun i H v H' => H' = H∧∃ c,x.cps[i]? = some c∧v = .str ⟨#[c]⟩,fun i _ => x.cps.size ≤ i⟩
theorem turn_str {P:Program} {w:World} {K:PySem.W.Frag} {tg:Expr} (x:Str) (it:Addr) (T:String) (t:Tok) (hT:["enumerate","zip","dict_itemiterator","dict_reverseitemiterator","odict_iterator","itertools.zip_longest","itertools.pairwise"].contains T = false)
  (W:∀ A:Around,A.handled = none→Walks P w A it [it] [it] x.cps.size (SignAt x) (fun i h => h.IsStrIter it T x t i)) (hs:∀ (A:Around) (i:Nat) (s:Shared) (Q:Value→Shared→Prop) (E:Value→Shared→Prop),s.heap.IsStrIter it T x t i→Q (.ref it) s→wpAny (model P w) A (pyIter (.ref it)) Q E s)
  (hd:∀ (A:Around) (i:Nat) (s:Shared) (Q:Option Value→Shared→Prop) (E:Value→Shared→Prop),A.handled = none→x.cps.size ≤ i→s.heap.IsStrIter it T x t i→(∀ h' tk,(∀ b o,b ≠ it→s.heap.get? b = some o→h'.get? b = some o)→Q none { s with heap:=h',toks:=tk })→wpAny (model P w) A (pyNext (.ref it)) Q E s) :
  Turn P w K tg (Its x) [it] it (fun i h => h.IsStrIter it T x t i) where
 mem:=by simp
 obj:=fun i h st b hb => by
  have e:b = it:=by simpa using hb
  subst e
  obtain ⟨o,e,c,d⟩:=st
  exact ⟨o,e,fun v z => by rw [d] at z; cases z⟩
 keep:=fun i h h' st k => let ⟨o,ho,r⟩:=st; ⟨o,k it (by simp) o ho,r⟩
 item:=by
  intro X hP hw hK hc i pins s σ H E I hf st hg
  subst hP hw hK
  obtain ⟨f0,f1,f2,f3,f4,f5⟩:=hf it (by simp)
  refine (W X.A (I.ok.hd hc)).item i s _ _ hg st fun v h' tk hv st' kk => ?_
  obtain ⟨c,u,hc',rfl⟩:=hv
  have I1:Zn X pins σ H { s with heap:=h',toks:=tk }:=I.turned (fun b o hb e => kk b o (by simpa using hb) e) f0 f1 f3 f4 f5
  obtain ⟨o,e,c1,d⟩:=id st'
  exact ⟨_,rfl,go_of (s:={ s with heap:=h',toks:=tk }) e c1 d hT ⟨.str ⟨#[c]⟩,H,I1,⟨u,rfl⟩,⟨rfl,c,hc',rfl⟩,st',fun b hb => (hf b hb).1⟩⟩
 done:=by
  intro X hP hw hK hc i pins s σ H E I hf st hg
  subst hP hw hK
  obtain ⟨f0,f1,f2,f3,f4,f5⟩:=hf it (by simp)
  exact hd X.A i s _ _ (I.ok.hd hc) hg st fun h' tk eb => ⟨rfl,I.turned (fun b o hb e => eb b o hb e) f0 f1 f3 f4 f5⟩
 self:=fun A i s Q E st h => hs A i s Q E st h
def iStr (te:TE):TI:=fun σ H R => te σ H fun v H1 => ∃ x,v = .str x∧R (Its x) H1
section
variable {X:Cx} {tg l:Expr} {tl:TE}
theorem pi_str (hl:PE X l tl):PI X tg l (iStr tl):=by
 intro pins s σ H R I h
 refine Vx (hl pins s σ H _ I h) fun v s1 ⟨v',H1,I1,r1,q1⟩ => ?_
 obtain ⟨x,rfl,q⟩:=q1
 obtain ⟨t,rfl⟩:=r1
 have fin:∀ b ∈ [s1.heap.objs.size],FpOk X pins H1 b:=fun b hb => by
  have e:b = s1.heap.objs.size:=by simpa using hb
  subst e
  exact I1.fpOk (Nat.le_refl _) (I1.hok.fresh (Nat.le_refl _))
 cases ha:x.cps.all (· < 128)
 ·refine wpAny_pyIter_wide ha ?_
  exact ⟨s1.heap.objs.size,[s1.heap.objs.size],_,_,H1,rfl,I1.kept (t':=s1.toks) fun b o e => Heap.get?_push_of_some _ e,turn_str x _ "str_iterator" t (by decide) (fun A hA => Walks.strWide hA _ x t) (fun A i s Q E st h => wpAny_pyIter_striter_wide st h)
   (fun A i s Q E hA hi st h => wpAny_pyNext_wide_end hA st (by simp [hi]) fun h' he => h h' s.toks fun b o hb e => he b o hb e),⟨_,Heap.get?_push_size _ rfl,rfl,rfl⟩,fin,q⟩
 ·refine wpAny_pyIter_ascii ha ?_
  exact ⟨s1.heap.objs.size,[s1.heap.objs.size],_,_,H1,rfl,I1.kept (t':=s1.toks) fun b o e => Heap.get?_push_of_some _ e,turn_str x _ "str_ascii_iterator" t (by decide) (fun A hA => Walks.strAscii hA _ x t) (fun A i s Q E st h => wpAny_pyIter_striter_ascii st h)
   (fun A i s Q E hA hi st h => wpAny_pyNext_ascii_end hA st (by simp [hi]) fun h' he => h h' s.toks fun b o hb e => he b o hb e),⟨_,Heap.get?_push_size _ rfl,rfl,rfl⟩,fin,q⟩
end
theorem comp_str {x:Str} {D:Addr} {g:TG} {tt:TT} {te:TE} {fin:Hp→Prop} {σ0:St} {H0:Hp} (Pv:Nat→List V→St→Hp→Prop) (h0:Pv 0 [] σ0 H0)
  (hq:∀ i ys σ H,i ≤ x.cps.size→Pv i ys σ H→H D = some (.lst ys))
  (hs:∀ i c ys σ H,x.cps[i]? = some c→Pv i ys σ H→g (.str ⟨#[c]⟩) σ H fun σ2 H2 => tt σ2 H2 fun ok H3 => if ok = true then te σ2 H3 fun y H4 => H4 D = some (.lst ys)∧ys.length < sizeLine∧Pv (i + 1) (ys ++ [y]) σ2 (Zo H4 D (.lst (ys ++ [y]))) else Pv (i + 1) ys σ2 H3)
  (hd:∀ ys σ H,Pv x.cps.size ys σ H→fin H):∃ W:Nat→Nat→List V→St→Hp→Prop,(∃ m,W 0 m [] σ0 H0)∧CompW (Its x) g tt te D W fin:=by
 refine ⟨fun i m ys σ H => m = x.cps.size - i∧i ≤ x.cps.size∧Pv i ys σ H,⟨x.cps.size,by simp,Nat.zero_le _,h0⟩, ?_⟩
 rintro i m ys σ H ⟨rfl,hi,p⟩
 refine ⟨hq i ys σ H hi p, ?_⟩
 by_cases hlt:i < x.cps.size
 ·refine .inr ⟨hlt,Pv (i + 1),fun ys' σ' H' p' => ⟨x.cps.size - (i + 1),by omega,rfl,hlt,p'⟩,fun v H' y => ?_⟩
  obtain ⟨e,c,y,rfl⟩:=y
  subst e
  exact hs i c ys σ _ y p
 ·have e:i = x.cps.size:=by omega
  subst e
  exact .inl ⟨Nat.le_refl _,hd ys σ H p⟩
def Itz (K:PySem.W.Frag) (l1 l2:Addr):It :=
  ⟨fun i H => ∃ xs ys x y,Yg K H l1 xs∧Yg K H l2 ys∧xs[i]? = some x∧ys[i]? = some y,
   fun i H v H' => ∃ p x y,v = .ref p∧H p = none∧H' = Zo H p (.tup [x,y])∧(∀ xs,Yg K H l1 xs→xs[i]? = some x)∧∀ ys,Yg K H l2 ys→ys[i]? = some y,
   fun i H => ∃ xs ys,Yg K H l1 xs∧Yg K H l2 ys∧(xs.length ≤ i ∨ ys.length ≤ i)⟩
theorem turn_zip {P:Program} {w:World} {K:PySem.W.Frag} {es:List Expr} {k:Nat} {pos:Pos} (z TI TO i1 i2 l1 l2:Addr) (D:ZipApart z TI TO i1 i2 l1 l2) :
  Turn P w K (.Tuple es k pos) (Itz K l1 l2) [z,TI,TO,i1,i2] z (fun i h => IsZip h z TI TO .none∧IsPair h TI (.ref i1) (.ref i2)∧(∃ a b,IsPair h TO a b)∧h.IsListIter i1 l1 i∧h.IsListIter i2 l2 i) where
 mem:=by simp
 obj:=fun i h st b hb => by
  obtain ⟨hz,hTI,⟨a,c,hTO⟩,⟨o1,e1,_,d1⟩,⟨o2,e2,_,d2⟩⟩:=st
  simp only [List.mem_cons,List.not_mem_nil,or_false] at hb
  rcases hb with rfl | rfl | rfl | rfl | rfl
  ·exact ⟨_,hz,fun v q => nomatch q⟩
  ·exact ⟨_,hTI,fun v q => nomatch q⟩
  ·exact ⟨_,hTO,fun v q => nomatch q⟩
  ·exact ⟨_,e1,fun v q => by rw [d1] at q; cases q⟩
  ·exact ⟨_,e2,fun v q => by rw [d2] at q; cases q⟩
 keep:=fun i h h' st hk => by
  obtain ⟨hz,hTI,⟨a,b,hTO⟩,h1,h2⟩:=st
  exact ⟨hk z (by simp) _ hz,hk TI (by simp) _ hTI,⟨a,b,hk TO (by simp) _ hTO⟩,h1.at fun o e => hk i1 (by simp) o e,h2.at fun o e => hk i2 (by simp) o e⟩
 item:=by
  intro X hP hw hK hc i pins s σ H E I hf st hg
  subst hP hw hK
  obtain ⟨xs,ys,x,y,q1,q2,g1,g2⟩:=hg
  obtain ⟨hz,hTI,⟨a,b,hTO⟩,h1,h2⟩:=st
  obtain ⟨is1,v1,pl1,z1⟩:=I.list q1
  obtain ⟨is2,v2,pl2,z2⟩:=I.list q2
  obtain ⟨u1,e1,r1⟩:=v1.get g1
  obtain ⟨u2,e2,r2⟩:=v2.get g2
  refine wpAny_pyNext_zip_item D hz hTI hTO h1 h2 pl1.isList pl2.isList (x:=u1) (y:=u2) (by simpa using e1) (by simpa using e2) fun h' a1 a2 a3 a4 a5 a6 hk => ?_
  refine ⟨_,rfl,wpAny_letOwnedTupleGo_zip (s:={ s with heap:=h' }) a1 fun h'' hz' hs' => ?_⟩
  have lt:∀ {c o},s.heap.get? c = some o→s.heap.objs.size ≠ c:=fun e => Nat.ne_of_gt (Heap.lt_size e)
  have nz:s.heap.objs.size ≠ z:=lt hz
  have kk:∀ c u,c ∉ [z,TI,TO,i1,i2]→s.heap.get? c = some u→h''.get? c = some u:=fun c u m e => by
   simp only [List.mem_cons,List.not_mem_nil,or_false,not_or] at m
   exact hs'.extBut _ _ m.1 (hk c u m.1 m.2.2.1 m.2.2.2.1 m.2.2.2.2 e)
  have fresh:=I.hok.fresh (Nat.le_refl s.heap.objs.size)
  have J:Zn X pins σ (Zo H s.heap.objs.size (.tup [x,y])) { s with heap:=h'',toks:=s.toks }:=I.turnLay kk hf (Nat.le_refl _) ⟨by show 2 ≤ sizeLine; decide,[u1,u2],.cons r1 (.cons r2 .nil),⟨_,hs'.extBut _ _ nz a5,rfl,_,rfl⟩⟩
  refine ⟨.ref s.heap.objs.size,_,J,rfl,⟨_,x,y,rfl,fresh,rfl,fun ws hw => by rw [I.list_inj hw q1]; exact g1,fun ws hw => by rw [I.list_inj hw q2]; exact g2⟩,⟨hz',hs'.extBut _ _ D.TIz (hk _ _ D.TIz D.TITO D.TIi1 D.TIi2 hTI),⟨_,_,hs'.extBut _ _ D.TOz a2⟩,a3.extBut hs'.extBut D.i1z,a4.extBut hs'.extBut D.i2z⟩,fun c hc => ?_⟩
  have nc:c ≠ s.heap.objs.size:=fun q => by
   subst q
   simp only [List.mem_cons,List.not_mem_nil,or_false] at hc
   rcases hc with q | q | q | q | q
   ·exact lt hz q
   ·exact lt hTI q
   ·exact lt hTO q
   ·obtain ⟨_,e,_⟩:=h1; exact lt e q
   ·obtain ⟨_,e,_⟩:=h2; exact lt e q
  rw [Zt nc]
  exact (hf c hc).1
 done:=by
  intro X hP hw hK hc i pins s σ H E I hf st hg
  subst hP hw hK
  obtain ⟨xs,ys,q1,q2,g⟩:=hg
  obtain ⟨hz,hTI,⟨a,b,hTO⟩,h1,h2⟩:=st
  obtain ⟨is1,v1,pl1,z1⟩:=I.list q1
  obtain ⟨is2,v2,pl2,z2⟩:=I.list q2
  have hl1:=v1.length
  have hl2:=v2.length
  refine wpAny_pyNext_zip_end (I.ok.hd hc) D hz hTI hTO h1 h2 pl1.isList pl2.isList (by rcases g with g | g; exact .inl (by simp; omega); exact .inr (by simp; omega)) fun h' hk => ⟨rfl,I.turnL (t':=s.toks) (fp:=[z,TI,TO,i1,i2]) (fun c u m e => ?_) hf⟩
  simp only [List.mem_cons,List.not_mem_nil,or_false,not_or] at m
  exact hk c u m.1 m.2.2.1 m.2.2.2.1 m.2.2.2.2 e
 self:=fun A i s Q E st h => wpAny_pyIter_zip st.1 h
def iZip (K:PySem.W.Frag) (t:TA):TI:=fun σ H R => t σ H fun vs H1 => ∃ p q,vs = [.ref p,.ref q]∧(∃ xs,Yg K H1 p xs)∧(∃ ys,Yg K H1 q ys)∧R (Itz K p q) H1
section
variable {X:Cx} {es:List Expr} {k:Nat} {p2 pos pos2:Pos} {a b:Expr} {t:TA}
theorem pi_zip (hgz:Gl X "zip") (hmz:X.mg "zip" = none) (ha:PA X [a,b] t)
  (he2:starEach [a,b] X.env = (false,eval a X.env) :: starEach [b] X.env:=by rfl) (hpl:(backTo pos2 (starEach [b] X.env)).any (·.1) = false:=by rfl) :
  PI X (.Tuple es k pos) (.Call (.Name "zip" p2) [a,b] [] pos2) (iZip X.K t):=by
 intro pins s σ H R I h
 refine wpAny_Call_Name_kw (ld_blt I hgz hmz (by decide +kernel:bootBuiltins "zip" = some (.type "zip")) ?_ (by decide) (by decide))
 refine callWith_type1 (Vx (ha pos2 pins s σ H _ I h) fun us s1 ⟨vs,H1,I1,r1,q1⟩ => ?_) he2 hpl
 obtain ⟨l1,l2,rfl,⟨xs,hx⟩,⟨ys,hy⟩,q⟩:=q1
 obtain ⟨u1,u2,rfl,e1,e2⟩:=vals2 r1
 cases e1
 cases e2
 obtain ⟨is1,v1,pl1,z1⟩:=I1.list hx
 obtain ⟨is2,v2,pl2,z2⟩:=I1.list hy
 have n1:l1 < s1.heap.objs.size:=by obtain ⟨_,e,_⟩:=pl1.isList; exact Heap.lt_size e
 have n2:l2 < s1.heap.objs.size:=by obtain ⟨_,e,_⟩:=pl2.isList; exact Heap.lt_size e
 refine call_zip_2 pl1.isList pl2.isList fun h2 b1 b2 b3 b4 b5 b6 k2 => ?_
 refine wpAny_pyIter_zip (s:={ s1 with heap:=h2 }) b1 ?_
 have J:Zn X pins σ H1 { s1 with heap:=h2,toks:=s1.toks }:=I1.kept k2
 refine ⟨_,[s1.heap.objs.size + 4,s1.heap.objs.size + 2,s1.heap.objs.size + 3,s1.heap.objs.size,s1.heap.objs.size + 1],_,_,H1,rfl,J,turn_zip _ _ _ _ _ l1 l2 (zipApart_new n1 n2),⟨b1,b2,⟨_,_,b3⟩,b4,b5⟩,fun c hc => ?_,q⟩
 have ge:s1.heap.objs.size ≤ c:=by
  simp only [List.mem_cons,List.not_mem_nil,or_false] at hc
  rcases hc with q | q | q | q | q <;> rw [q] <;> first | exact Nat.le_refl _ | exact Nat.le_add_right _ _
 exact I1.fpOk ge (I1.hok.fresh ge)
end
section
variable {X:Cx}
theorem op_catT0:OpR X (binaryOp .Add) (fun x y H Q => ∃ l b zs,x = .ref l∧y = .ref b∧Z9 X.K H l []∧Z9 X.K H b zs∧Q (.ref b) H):=by
 intro pins s σ H x y v u Q I rx ry h
 obtain ⟨l,b,zs,rfl,rfl,hl,hb,q⟩:=h
 cases rx
 cases ry
 obtain ⟨i1,r1,p1,z1⟩:=I.tuple hl
 obtain ⟨i2,r2,p2,z2⟩:=I.tuple hb
 have e1:i1 = []:=by cases r1; rfl
 subst e1
 obtain ⟨⟨c1,d1,t1,s1⟩,o1,k1,n1,m1⟩:=id p1
 obtain ⟨⟨c2,d2,t2,s2⟩,o2,k2,n2,m2⟩:=id p2
 simp only at k1 m1 k2 m2
 subst k1 m1 k2 m2
 exact concat_meets ⟨_,o1,rfl⟩ ⟨_,o2,rfl⟩ noFill_tuple_add seq_tuple_add PySem.F.slot_tuple_add PySem.F.entry_tuple_add (PySem.F.args_tuple_add_2 _ _) (tuple_addW0 l b _ _ n1 n2 d1 d2 s1 s2 rfl) ⟨o1,o2,⟨.ref b,H,I,rfl,q⟩⟩
end
end L2
namespace HT
open PySem PySem.Spec PyProof.Rows
section
variable {prog:Program} {w:World} {A:Around} {E:Value→Shared→Prop} {s:Shared}
theorem getItem_tuple_whole {t sl:Addr} {items:Array Value} {vl vu:Value} {lo hi:Option Int} {Q:Value→Shared→Prop} (ht:IsTup s.heap t items) (hs:s.heap.IsSliceOf sl vl vu .none) (pl:IsPart vl lo) (pu:IsPart vu hi)
  (hw:sIx items.size 0 lo = 0∧sIx items.size items.size hi = items.size) (h:Q (.ref t) s):wpAny (model prog w) A (getItem (.ref t) (.ref sl)) Q E s:=by
 obtain ⟨os,hos,hcs,hds⟩:=id hs
 have hTs:s.TypeIs (.ref sl) "slice" := ⟨os,hos,hcs⟩
 unfold getItem
 try with_reducible refine wpAny_holding ?_
 first | refine wpAny_bind (wpAny_pure ?_) | skip
 refine wpAny_bind (wpAny_sequenceKey ht.typeIs (by decide) ?_)
 refine wpAny_bind (wpAny_callSpecial?_slot (name:=Str.ofString "__getitem__") ht.typeIs slot_tuple_getitem
  (wpAny_call_entry slot_tuple_getitem ht.typeIs entry_tuple_getitem ?_ (args_tuple_getitem _ _)))
 show wpAny _ _ (Builtin.Tuple.tupleItemsOf (.ref t) >>= _) _ _ s
 refine wpAny_bind (tupleItemsOf_ ht ?_)
 refine wpAny_bind (wpAny_typeOf hTs ?_)
 rw [if_pos (by decide)]
 refine wpAny_bind (sliceApplied_gen hs pl pu ?_)
 have hyes:(((sIx items.size 0 lo:Nat):Int) == 0 && (1:Int) == 1 && (sIx items.size items.size hi - sIx items.size 0 lo) == items.size) = true:=by
  rw [hw.1,hw.2]
  simp
 show wpAny _ _ (if (((sIx items.size 0 lo:Nat):Int) == 0 && (1:Int) == 1 && (sIx items.size items.size hi - sIx items.size 0 lo) == items.size) = true then _ else _) _ _ s
 rw [if_pos hyes]
 refine wpAny_bind (m:=Builtin.Tuple.tupleIsExact (.ref t)) (wpAny_bind (wpAny_typeOf ht.typeIs (wpAny_pure ?_)))
 rw [if_pos (by decide)]
 exact wpAny_bind (wpAny_rule (wpAny_pure ⟨_,rfl,wpAny_pure h⟩))
end
end HT
namespace L2
open PySem PySem.Spec PyProof.Rows
section
variable {X:Cx} {e:Expr} {te:TE} {lo hi:Option Expr} {tl th:TO} {pos p2 p3 p4:Pos} {j1:Nat}
theorem Zf.lay {H:Hp} {p:Addr} {o:HO} (h:H p = none):Zf H (Zo H p o):=fun b u q => by rw [Zt (Zu q h)]; exact q
def rSlG (K:PySem.W.Frag):V→Option Int→Option Int→Hp→VK→Prop:=fun x lo hi H Q => ∃ a xs,x = .ref a∧Z9 K H a xs∧∀ p H',Zf H H'→Z9 K H' p (cutV xs lo hi)→Q (.ref p) H'
theorem sl_tupG:SlR X (rSlG X.K):=by
 intro pins s σ H x v vl vu lo hi sl Q I rx hs pl pu h
 obtain ⟨a,xs,rfl,hx,q⟩:=h
 by_cases hw:HT.sIx xs.length 0 lo = 0∧HT.sIx xs.length xs.length hi = xs.length
 ·cases rx
  obtain ⟨its,r,ht,hz⟩:=I.tuple hx
  have hlen:its.toArray.size = xs.length:=by rw [List.size_toArray]; exact r.length.symm
  refine ⟨"tuple",_,slot_tuple_getitem.lookup,ht.typeIs, ?_⟩
  refine HT.getItem_tuple_whole ht hs pl pu (by rw [hlen]; exact hw) ⟨.ref a,H,I,rfl,q a H (Zf.refl H) ?_⟩
  have e:cutV xs lo hi = xs:=by
   unfold cutV
   rw [hw.1,hw.2,List.drop_zero,Nat.sub_zero,List.take_length]
  rw [e]
  exact hx
 ·exact sl_tup pins s σ H _ v vl vu lo hi sl Q I rx hs pl pu ⟨a,xs,rfl,hx,hw,fun p hp => q p _ (Zf.lay hp) (Z9.of Zq)⟩
def rCatG (K:PySem.W.Frag):R2:=fun x y H Q => ∃ a b xs ys,x = .ref a∧y = .ref b∧Z9 K H a xs∧Z9 K H b ys∧xs.length + ys.length ≤ sizeLine∧∀ p H',Zf H H'→Z9 K H' p (xs ++ ys)→Q (.ref p) H'
theorem Vv:OpR X (binaryOp .Add) (rCatG X.K):=by
 intro pins s σ H x y v u Q I rx ry h
 obtain ⟨a,b,xs,ys,rfl,rfl,ha,hb,hz,q⟩:=h
 cases xs with
 | nil => exact op_catT0 pins s σ H _ _ v u Q I rx ry ⟨a,b,ys,rfl,rfl,ha,hb,q b H (Zf.refl H) hb⟩
 | cons x xs =>
  refine op_catT pins s σ H _ _ v u Q I rx ry ⟨a,b,x :: xs,ys,rfl,rfl,ha,hb,(fun z => nomatch z),hz,fun e => ?_,fun _ p hp => q p _ (Zf.lay hp) (Z9.of Zq)⟩
  subst e
  exact q a H (Zf.refl H) (by rw [List.append_nil]; exact ha)
end
structure FnV (X:Cx) (f:Addr) (ps:List Str) (sp:Sp):Prop where
 ok:∃ k fd,Yd X.prog X.w X.K X.mg X.base CX0 k f fd ps sp∧Binds X.K fd ps []∧Vb k X.A
 kp:PySem.W.keepIn X.K (.ref f) = true
section
variable {X:Cx} {x:Str} {p pos:Pos} {e:Expr} {es:List Expr} {tn:TE} {t:TA} {Y:Cx→Addr→List Str→Sp→Prop}
end
inductive Th where
 | non | bl (b:Bool) | int (i:Int) | str (x:Str) | tup (ts:List Th) | opq
mutual
def IsTh (K:PySem.W.Frag) (H:Hp):Th→V→Prop
 | .non,v => v = .non
 | .bl b,v => v = .bl b
 | .int i,v => v = .int i
 | .str x,v => v = .str x
 | .tup ts,v => ∃ a vs,v = .ref a∧Z9 K H a vs∧Yc K H ts vs
 | .opq,v => ∃ a,v = .ref a∧((∃ xs,H a = some (.lst xs)) ∨ ∃ kvs,H a = some (.dK kvs))
def Yc (K:PySem.W.Frag) (H:Hp):List Th→List V→Prop
 | [],vs => vs = []
 | t :: ts,vs => ∃ v r,vs = v :: r∧IsTh K H t v∧Yc K H ts r
end
structure UpT (K:PySem.W.Frag) (H H':Hp):Prop where
 tup:Up K H H'
 lst:∀ a xs,H a = some (.lst xs)→∃ ys,H' a = some (.lst ys)
 dct:∀ a kvs,H a = some (.dK kvs)→H' a = some (.dK kvs)
section
variable {K:PySem.W.Frag} {H H1 H':Hp}
theorem UpT.refl (H:Hp):UpT K H H:=⟨Up.refl H,fun _ xs h => ⟨xs,h⟩,fun _ _ h => h⟩
theorem UpT.trans {H2:Hp} (a:UpT K H H1) (b:UpT K H1 H2):UpT K H H2:=⟨a.tup.trans b.tup,fun p xs h => let ⟨_,e⟩:=a.lst p xs h; b.lst p _ e,fun p k h => b.dct p k (a.dct p k h)⟩
mutual
theorem IsTh.up (u:UpT K H H'):∀ (t:Th) (v:V),IsTh K H t v→IsTh K H' t v
 | .non,_,h => h
 | .bl _,_,h => h
 | .int _,_,h => h
 | .str _,_,h => h
 | .tup ts,v,h => by
  obtain ⟨a,vs,e,q,r⟩:=h
  exact ⟨a,vs,e,u.tup a vs q,Yc.up u ts vs r⟩
 | .opq,v,h => by
  obtain ⟨a,e,q⟩:=h
  refine ⟨a,e, ?_⟩
  rcases q with ⟨xs,q⟩ | ⟨k,q⟩
  ·exact .inl (u.lst a xs q)
  ·exact .inr ⟨k,u.dct a k q⟩
theorem Yc.up (u:UpT K H H'):∀ (ts:List Th) (vs:List V),Yc K H ts vs→Yc K H' ts vs
 | [],_,h => h
 | t :: ts,vs,h => by
  obtain ⟨v,r,e,q,w⟩:=h
  exact ⟨v,r,e,IsTh.up u t v q,Yc.up u ts r w⟩
end
theorem Yc.length:∀ {ts:List Th} {vs:List V},Yc K H ts vs→ts.length = vs.length
 | [],vs,h => by
  have e:vs = []:=h
  subst e; rfl
 | t :: ts,vs,h => by
  obtain ⟨v,r,rfl,_,w⟩:=h
  simp only [List.length_cons,Yc.length w]
theorem Yc.get:∀ {ts:List Th} {vs:List V} {i:Nat} {t:Th},Yc K H ts vs→ts[i]? = some t→∃ v,vs[i]? = some v∧IsTh K H t v
 | [],vs,i,t,_,e => by simp at e
 | t :: ts,vs,0,t',h,e => by
  obtain ⟨v,r,rfl,q,_⟩:=h
  simp at e; subst e
  exact ⟨v,rfl,q⟩
 | t :: ts,vs,i + 1,t',h,e => by
  obtain ⟨v,r,rfl,_,w⟩:=h
  obtain ⟨v',e1,q⟩:=Yc.get (i:=i) w (by simpa using e)
  exact ⟨v',by simpa using e1,q⟩
theorem Yc.append:∀ {ts us:List Th} {vs ws:List V},Yc K H ts vs→Yc K H us ws→Yc K H (ts ++ us) (vs ++ ws)
 | [],us,vs,ws,h,h' => by
  have e:vs = []:=h
  subst e; exact h'
 | t :: ts,us,vs,ws,h,h' => by
  obtain ⟨v,r,rfl,q,w⟩:=h
  exact ⟨v,r ++ ws,rfl,q,Yc.append w h'⟩
theorem Yc.one {t:Th} {v:V} (h:IsTh K H t v):Yc K H [t] [v]:=⟨v,[],rfl,h,rfl⟩
theorem Yc.drop:∀ {ts:List Th} {vs:List V} (n:Nat),Yc K H ts vs→Yc K H (ts.drop n) (vs.drop n)
 | ts,vs,0,h => h
 | [],vs,n + 1,h => by
  have e:vs = []:=h
  subst e; rfl
 | t :: ts,vs,n + 1,h => by
  obtain ⟨v,r,rfl,_,w⟩:=h
  exact Yc.drop n w
theorem Yc.take:∀ {ts:List Th} {vs:List V} (n:Nat),Yc K H ts vs→Yc K H (ts.take n) (vs.take n)
 | ts,vs,0,_ => rfl
 | [],vs,n + 1,h => by
  have e:vs = []:=h
  subst e; rfl
 | t :: ts,vs,n + 1,h => by
  obtain ⟨v,r,rfl,q,w⟩:=h
  exact ⟨v,r.take n,rfl,q,Yc.take n w⟩
theorem Yc.reverse:∀ {ts:List Th} {vs:List V},Yc K H ts vs→Yc K H ts.reverse vs.reverse
 | [],vs,h => by
  have e:vs = []:=h
  subst e; rfl
 | t :: ts,vs,h => by
  obtain ⟨v,r,rfl,q,w⟩:=h
  rw [List.reverse_cons,List.reverse_cons]
  exact Yc.append (Yc.reverse w) (Yc.one q)
end
def isiT (T:String):Th→Bool
 | .non => false
 | .bl _ => T == "int" || T == "bool"
 | .int _ => T == "int"
 | .str _ => T == "str"
 | .tup _ => T == "tuple"
 | .opq => false
section
variable {X:Cx}
theorem isi_tup {pins:List (Addr × Obj)} {σ:St} {H:Hp} {s:Shared} {a:Addr} {xs:List V} {c:Value} {b:Bool} {Q:Value→Shared→Prop} {E:Value→Shared→Prop} (I:Zn X pins σ H s) (q:Z9 X.K H a xs) (e:PySem.W.kitOne X.K (.type "tuple") c = some b) (h:∀ tk,Q (.bool b) { s with toks:=tk }) :
  wpAny (model X.prog X.w) X.A (call (.builtin "isinstance") [.ref a,c]) Q E s:=by
 obtain ⟨its,_,⟨o,h1,h2,_⟩,_⟩:=I.tuple q
 exact PySem.W.kia_one PySem.W.kitx_tuple I.kIn ⟨o,h1,h2⟩ e (fun z => nomatch z) h
theorem call_isiTh:Vi X (.builtin "isinstance") (fun xs H Q => ∃ x T t,xs = [x,.ty T]∧IsTh X.K H t x∧T ∈ ["tuple","str","int","bool"]∧Q (.bl (isiT T t)) H):=by
 intro pins s σ H xs us Q I r h
 obtain ⟨x,T,t,rfl,ht,hT,q⟩:=h
 obtain ⟨u,w',rfl,rx,ry⟩:=vals2 r
 cases ry
 have fin:∀ tk,EP X pins σ Q (.bool (isiT T t)) { s with toks:=tk }:=fun tk => ⟨.bl _,H,I.tok _,rfl,q⟩
 have four:∀ P:String→Prop,P "tuple" → P "str" → P "int" → P "bool" → P T:=fun P a b c d => by
  simp only [List.mem_cons,List.not_mem_nil,or_false] at hT
  rcases hT with rfl | rfl | rfl | rfl
  ·exact a
  ·exact b
  ·exact c
  ·exact d
 cases t with
 | non =>
  cases (show x = .non from ht)
  exact isinst_ok I rx .non (by revert fin; exact four (fun T => _→PySem.W.kitOne X.K (.type "NoneType") (.type T) = some (isiT T .non)) (fun _ => rfl) (fun _ => rfl) (fun _ => rfl) (fun _ => rfl)) fin
 | bl b =>
  cases (show x = .bl b from ht)
  exact isinst_ok I rx (.bl b) (by revert fin; exact four (fun T => _→PySem.W.kitOne X.K (.type "bool") (.type T) = some (isiT T (.bl b))) (fun _ => rfl) (fun _ => rfl) (fun _ => rfl) (fun _ => rfl)) fin
 | int i =>
  cases (show x = .int i from ht)
  exact isinst_ok I rx (.int i) (by revert fin; exact four (fun T => _→PySem.W.kitOne X.K (.type "int") (.type T) = some (isiT T (.int i))) (fun _ => rfl) (fun _ => rfl) (fun _ => rfl) (fun _ => rfl)) fin
 | str i =>
  cases (show x = .str i from ht)
  exact isinst_ok I rx (.str i) (by revert fin; exact four (fun T => _→PySem.W.kitOne X.K (.type "str") (.type T) = some (isiT T (.str i))) (fun _ => rfl) (fun _ => rfl) (fun _ => rfl) (fun _ => rfl)) fin
 | tup ts =>
  obtain ⟨a,vs,rfl,hq,_⟩:=ht
  cases rx
  exact isi_tup I hq (by revert fin; exact four (fun T => _→PySem.W.kitOne X.K (.type "tuple") (.type T) = some (isiT T (.tup ts))) (fun _ => rfl) (fun _ => rfl) (fun _ => rfl) (fun _ => rfl)) fin
 | opq =>
  obtain ⟨a,rfl,⟨xs,hq⟩ | ⟨k,hq⟩⟩:=ht
  ·exact isinst_ok I rx (.lst hq) (by revert fin; exact four (fun T => _→PySem.W.kitOne X.K (.type "list") (.type T) = some (isiT T .opq)) (fun _ => rfl) (fun _ => rfl) (fun _ => rfl) (fun _ => rfl)) fin
  ·exact isinst_ok I rx (.dK hq) (by revert fin; exact four (fun T => _→PySem.W.kitOne X.K (.type "dict") (.type T) = some (isiT T .opq)) (fun _ => rfl) (fun _ => rfl) (fun _ => rfl) (fun _ => rfl)) fin
end
theorem goAlways {τ:St} {o:Option V} {v:V} {H:Hp} {A B:St→Hp→Prop} (h:A (some v :: τ) H):gName 0 v (o :: τ) H fun σ2 H2 => tAlways σ2 H2 fun ok H3 => if ok = true then A σ2 H3 else B σ2 H3:=by
 show if true = true then A (some v :: τ) H else B (some v :: τ) H
 rw [if_pos rfl]
 exact h
theorem take_more {α:Type} {xs:List α} {i:Nat} {x:α} (e:xs[i]? = some x):xs.take (i + 1) = xs.take i ++ [x]:=by rw [List.take_add_one,e]; rfl
section
variable {K:PySem.W.Frag} {H:Hp} {a D:Addr} {xs:List V} {ts:List Th} {te:TE} {tt:TT} {fin:Hp→Prop} {τ:St} {o:Option V}
end
end L2
namespace K01
open PySem PySem.Spec PyProof.Rows L2
def gdC (c:Nat):Prop:=32 ≤ c∧c ≤ 126∧c ≠ 37
def gdS (x:Str):Prop:=∀ c ∈ x.cps.toList,gdC c
mutual
def gdT:Th→Prop
 | .str x => gdS x∧x.length ≤ 1000
 | .tup ts => gdTs ts
 | _ => True
def gdTs:List Th→Prop
 | [] => True
 | t :: ts => gdT t∧gdTs ts
end
mutual
def szT:Th→Nat
 | .tup ts => szTs ts + 1
 | _ => 1
def szTs:List Th→Nat
 | [] => 0
 | t :: ts => szT t + szTs ts
end
mutual
def dpT:Th→Nat
 | .tup ts => dpTs ts + 1
 | _ => 0
def dpTs:List Th→Nat
 | [] => 0
 | t :: ts => max (dpT t) (dpTs ts)
end
mutual
def wdT:Th→Nat
 | .tup ts => max ts.length (wdTs ts)
 | _ => 0
def wdTs:List Th→Nat
 | [] => 0
 | t :: ts => max (wdT t) (wdTs ts)
end
def LET:Str:="abcdefghijklmnopqrstuvwxyz"
def SGN : Str := " !\"#$&'()*+,-./0123456789:;<=>?\x40ABCDEFGHIJKLMNOPQRSTUVWXYZ[\\]^_`abcdefghijklmnopqrstuvwxyz{|}~"
structure Fine (t:Th) (s d w:Nat):Prop where
 gd:gdT t
 sz:szT t ≤ s
 dp:dpT t ≤ d
 wd:wdT t ≤ w
theorem ltCps_eq:∀ a b:List Nat,ltCps a b = decide (a < b)
 | [],[] => by simp [ltCps]
 | [],_ :: _ => by simp [ltCps]
 | _ :: _,[] => by simp [ltCps]
 | a :: r,b :: t => by
  simp only [ltCps,ltCps_eq r t,List.cons_lt_cons_iff]
  by_cases h1:a < b <;> by_cases h2:a = b <;> by_cases h3:r < t <;> simp [h1,h2,h3]
def ltS (x y:Str):Prop:=x.cps.toList < y.cps.toList
theorem ltS_trans {x y z:Str} (a:ltS x y) (b:ltS y z):ltS x z:=List.lt_trans a b
theorem str_ext {x y:Str} (h:x.cps.toList = y.cps.toList):x = y:=by
 cases x; cases y
 simp only at h
 congr
 exact Array.toList_inj.mp h
theorem ltS_of {x y:Str} (h:¬ ltS y x) (n:x ≠ y):ltS x y:=by
 by_cases z:ltS x y
 ·exact z
 ·exact absurd (str_ext (List.le_antisymm (List.not_lt.mp h) (List.not_lt.mp z))) n
def adj {α:Type} (r:α→α→Prop):List α→Prop
 | a :: b :: l => r a b∧adj r (b :: l)
 | _ => True
theorem adj_pair {α:Type} {r:α→α→Prop} (tr:∀ a b c,r a b→r b c→r a c):∀ {l:List α},adj r l→l.Pairwise r
 | [],_ => .nil
 | [a],_ => by simp
 | a :: b :: l,h => by
  have ih:=adj_pair tr (l:=b :: l) h.2
  refine List.pairwise_cons.mpr ⟨fun c m => ?_,ih⟩
  rcases List.mem_cons.mp m with rfl | m
  ·exact h.1
  ·exact tr _ _ _ h.1 ((List.pairwise_cons.mp ih).1 c m)
theorem sortedS_adj:∀ {ns:List Str},sortedS ns = true→ns.Nodup→adj ltS ns
 | [],_,_ => trivial
 | [a],_,_ => trivial
 | a :: b :: l,h,n => by
  have h':(!ltCps b.cps.toList a.cps.toList && risingS b l) = true:=h
  rw [Bool.and_eq_true] at h'
  have n':=List.nodup_cons.mp n
  refine ⟨ltS_of (fun z => ?_) (fun z => ?_),sortedS_adj (ns:=b :: l) h'.2 n'.2⟩
  ·have:=h'.1
   rw [ltCps_eq,decide_eq_true (show b.cps.toList < a.cps.toList from z)] at this
   cases this
  ·exact n'.1 (by rw [z]; exact List.mem_cons_self)
theorem sortedI_adj {ns:List Int} (h:ns.Pairwise (· ≤ ·)) (n:ns.Nodup):ns.Pairwise (· < ·):=by
 induction ns with
 | nil => exact .nil
 | cons a l ih =>
  have h':=List.pairwise_cons.mp h
  have n':=List.nodup_cons.mp n
  refine List.pairwise_cons.mpr ⟨fun b m => ?_,ih h'.2 n'.2⟩
  have:=h'.1 b m
  have:a ≠ b:=fun z => n'.1 (by rw [z]; exact m)
  omega
end K01
namespace L2
open PySem PySem.Spec PyProof.Rows
section
variable {X:Cx}
end
end L2
namespace RevA
open PySem
theorem init_rev:Slot "reversed" "__init__" "object.__init__" :=
 .of (owner:="object") (n:="__init__") (by rw [typeLookup_type,builtinLookup_eq_fast]; kernel_rfl) (by decide +kernel) (by decide +kernel) (by decide +kernel) (by first | exact .inl (by decide +kernel) | exact .inr (by decide +kernel)) (by rw [isSubtype_type]; kernel_rfl)
theorem called_rev:TypeCalled "reversed" "reversed.__new__" "object.__init__" :=
 ⟨by decide +kernel,PySem.F.create_reversed,⟨_,_,PySem.F.mro_reversed⟩,PySem.F.made_reversed,by decide +kernel,PySem.F.sub_reversed_self,init_rev⟩
theorem no_rev:typeLookup (.type "tuple") "__reversed__" = pure none:=by rw [typeLookup_type,builtinLookup_eq_fast]; kernel_rfl
abbrev tO (dd:Option Addr) (its:Array Value) (n:Nat) (sl:Array (Option Value)):Obj:={ cls:=.type "tuple",dict:=dd,data:=.seq its n,slots:=sl }
abbrev rvO (t:Addr) (i:Int):Obj:={ cls:=.type "reversed",data:=.fields #[.ref t,rawInt i] }
theorem rev_new (t:Addr) (its:Array Value) (n:Nat) (dd:Option Addr) (sl:Array (Option Value)) (hz:((its.size:Nat):Int) < 2 ^ 63) :
  Meets (Builtin.«reversed.__new__» ⟨[.type "reversed",.ref t],[]⟩) (fun _ R s => s.heap.get? t = some (tO dd its n sl)∧∀ tk,R (.ok (.ret (.ref s.heap.objs.size))) { s with heap:=s.heap.push (rvO t ((its.size:Int) - 1)),toks:=tk }) :=
 .of_wp fun prog w A R s h => by
  obtain ⟨hp,g,d,tk,os⟩:=s
  obtain ⟨hl,h⟩:=h
  have hT:(⟨hp,g,d,tk,os⟩:Shared).TypeIs (.ref t) "tuple" := ⟨_,hl,rfl⟩
  unfold Builtin.«reversed.__new__»
  refine wpAny_bind (wpAny_of_eq (newClass_reversed _) ?_)
  try dsimp only
  refine wpAny_bind (wpAny_of_eq (a:=()) (by first | rfl | kernel_rfl) ?_)
  refine wpAny_bind (wpAny_of_eq (a:=()) (by first | rfl | kernel_rfl) ?_)
  try dsimp only
  refine wpAny_bind (wpAny_specialOf hT no_rev ?_)
  have f1:isSubtype (.type "tuple") (.type "dict") = pure false:=by rw [isSubtype_type]; kernel_rfl
  have f2:=PySem.F.slot_tuple_getitem.lookup
  have z63:((its.size:Nat):Int) < 2 ^ 63:=hz
  iterate 10 (first | with_reducible refine wpAny_typeOf hT ?_ | wp_step)
  refine wpAny_bind (PyProof.Rows.len_tuple (s:=⟨hp,g,d,tk,os⟩) ⟨_,hl,rfl,n,rfl⟩ z63 ?_)
  refine wpAny_bind (wpAny_of_eq (a:=some (its.size:Int)) rfl ?_)
  refine wpAny_bind (m:=Builtin.SmallTypes.newRecord _ _) ?_
  unfold Builtin.SmallTypes.newRecord
  refine wpAny_newObj_type ?_
  exact wpAny_pure ⟨_,rfl,h _⟩
section
variable {prog:Program} {w:World} {A:Around} {E:Value→Shared→Prop} {s:Shared} {r t:Addr} {its:Array Value} {i:Int}
theorem call_rev {Q:Value→Shared→Prop} (ht:PyProof.Rows.IsTup s.heap t its) (hz:((its.size:Nat):Int) < 2 ^ 63) (h:∀ tk,Q (.ref s.heap.objs.size) { s with heap:=s.heap.push (rvO t ((its.size:Int) - 1)),toks:=tk }) :
  wpAny (model prog w) A (call (.type "reversed") [.ref t]) Q E s:=by
 obtain ⟨⟨oc,od,dt,sl⟩,ho,hc,n,hd⟩:=ht
 obtain rfl:oc = _:=hc
 obtain rfl:dt = _:=hd
 exact callType_new called_rev (by decide) (PySem.F.typeCall_reversed_1 _) (PySem.F.newCall_reversed_1 _) (fun obj => PySem.F.args_object_init_2 obj _) PySem.F.entry_reversed_new (rev_new t its n od sl hz) ⟨ho,fun tk => ⟨⟨_,Heap.get?_push_size _ rfl,rfl⟩,h tk⟩⟩
def IsRv (h:Heap) (r t:Addr) (i:Int):Prop:=∃ o,h.get? r = some o∧o.cls = .type "reversed" ∧ o.data = .fields #[.ref t,rawInt i]
theorem IsRv.ty (x:IsRv s.heap r t i):s.TypeIs (.ref r) "reversed" := let ⟨o,ho,hc,_⟩:=x; ⟨o,ho,hc⟩
theorem slot_next:Slot "reversed" "__next__" "reversed.__next__" :=
 .of (owner:="reversed") (n:="__next__") (by rw [typeLookup_type,builtinLookup_eq_fast]; kernel_rfl) (by decide +kernel) (by decide +kernel) (by decide +kernel) (by first | exact .inl (by decide +kernel) | exact .inr (by decide +kernel)) (by rw [isSubtype_type]; kernel_rfl)
theorem entry_next:entryFor table "reversed.__next__" = some Builtin.«reversed.__next__»:=entryFor_of_tree (by kernel_rfl)
theorem args_next (a:Value):argsOk "reversed.__next__" ⟨[a],[]⟩:=by unfold argsOk; kernel_rfl
end
end RevA
namespace RevA
open PySem PyProof.Rows
section
variable {prog:Program} {w:World} {A:Around} {E:Value→Shared→Prop} {s:Shared} {r t:Addr} {its:Array Value}
theorem next_item {i:Nat} {x:Value} {Q:Option Value→Shared→Prop} (hr:IsRv s.heap r t (i:Int)) (ht:IsTup s.heap t its) (hx:its[i]? = some x) (hz:((its.size:Nat):Int) < 2 ^ 63)
  (h:∀ h' tk,IsRv h' r t ((i:Int) - 1)→Heap.SameBut r s.heap h'→Q (some x) { s with heap:=h',toks:=tk }):wpAny (model prog w) A (pyNext (.ref r)) Q E s:=by
 obtain ⟨o,ho,hc,hd⟩:=id hr
 have hi:i < its.size:=(Array.getElem?_eq_some_iff.mp hx).1
 unfold pyNext
 refine wpAny_bind (wpAny_attempt (wpAny_callSpecial?_slot (name:=Str.ofString "__next__") hr.ty slot_next (wpAny_call_entry slot_next hr.ty entry_next ?_ (args_next _))))
 unfold Builtin.«reversed.__next__»
 refine wpAny_bind (wpAny_of_eq (a:=(Value.ref r,[])) rfl ?_)
 try dsimp only
 refine wpAny_bind (wpAny_field ho hd (x:=.ref t) rfl ?_)
 refine wpAny_bind (wpAny_field ho hd (x:=rawInt (i:Int)) rfl ?_)
 show wpAny _ _ (if (i:Int) < 0 then _ else _) _ _ s
 rw [if_neg (by omega)]
 refine wpAny_bind (wpAny_specialOf ht.typeIs PySem.F.slot_tuple_getitem.lookup ?_)
 rw [if_neg (by decide)]
 refine wpAny_bind (wpAny_mkInt ?_)
 refine wpAny_bind (wpAny_attempt ?_)
 have e:seqIndex? (i:Int) its.size = some i:=by
  unfold seqIndex?
  have n0:¬ ((i:Int) < 0):=by omega
  have c:(decide (0 ≤ (i:Int)) && decide ((i:Int) < (its.size:Int))) = true:=by simp; omega
  simp only [n0,if_false,c,if_true,Int.toNat_natCast]
 refine getItem_tuple (s:={ s with toks:=s.toks + 1 }) (j:=i) ht (by omega) (by omega) e hx ?_
 refine wpAny_bind (wpAny_field (s:={ s with toks:=s.toks + 1 }) ho hd (x:=rawInt (i:Int)) rfl ?_)
 refine wpAny_bind (wpAny_setField (s:={ s with toks:=s.toks + 1 }) ho hd (by simp) ?_)
 refine wpAny_pure ⟨x,rfl,wpAny_pure (h _ _ ⟨_,Heap.get?_update_self _ ho (Obj.isFreed_of_fields (Obj.data_mapFields hd _)),(Obj.cls_mapFields ..).trans hc, ?_⟩ (Heap.SameBut.update ..))⟩
 rw [Obj.data_mapFields hd]; simp
theorem next_end {Q:Option Value→Shared→Prop} (hh:A.handled = none) (hr:IsRv s.heap r t (-1))
  (h:∀ h',(∀ b u,b ≠ r→s.heap.get? b = some u→h'.get? b = some u)→Q none { s with heap:=h' }):wpAny (model prog w) A (pyNext (.ref r)) Q E s:=by
 obtain ⟨o,ho,hc,hd⟩:=id hr
 unfold pyNext
 refine wpAny_bind (wpAny_attempt (wpAny_callSpecial?_slot (name:=Str.ofString "__next__") hr.ty slot_next (wpAny_call_entry slot_next hr.ty entry_next ?_ (args_next _))))
 unfold Builtin.«reversed.__next__»
 refine wpAny_bind (wpAny_of_eq (a:=(Value.ref r,[])) rfl ?_)
 try dsimp only
 refine wpAny_bind (wpAny_field ho hd (x:=.ref t) rfl ?_)
 refine wpAny_bind (wpAny_field ho hd (x:=rawInt (-1)) rfl ?_)
 show wpAny _ _ (if (-1:Int) < 0 then _ else _) _ _ s
 rw [if_pos (by decide)]
 refine wpAny_bind (wpAny_rule ?_)
 refine wpAny_bind (wpAny_bind (wpAny_setField ho hd (by simp) ?_))
 have h1:=Heap.get?_update_self (Obj.mapFields (·.setIfInBounds 1 (rawInt (-1)))) ho (Obj.isFreed_of_fields (Obj.data_mapFields hd _))
 have d1:=Obj.data_mapFields hd (·.setIfInBounds 1 (rawInt (-1)))
 refine wpAny_setField h1 d1 (by simp) ?_
 refine wpAny_bind ?_
 show wpAny _ _ (newExc (.type "StopIteration") [] >>= _) _ _ _
 refine wpAny_bind ?_
 simp only [newExc,newTuple]
 refine wpAny_bind (wpAny_newObj_type ?_ (by size_fits))
 refine wpAny_bind (m:=firstArgMember _ _) (wpAny_of_eq (a:=Value.none) (by first | rfl | (simp only [firstArgMember]; rfl)) ?_)
 refine wpAny_newObj_type ?_ (by size_fits)
 refine wpAny_raiseNew_none (A:=A.in1) hh ?_
 refine wpAny_bind (wpAny_isInstance (T:="StopIteration") (b:=true) ⟨_,Heap.get?_push_size _ rfl,rfl⟩ isSubtype_stop ?_)
 refine wpAny_pure (h _ fun b u hb q => ?_)
 exact Heap.get?_push_of_some _ (Heap.get?_push_of_some _ ((Heap.get?_update_other _ _ (Ne.symm hb)).trans ((Heap.get?_update_other _ _ (Ne.symm hb)).trans q)))
end
theorem slot_iter:Slot "reversed" "__iter__" "reversed.__iter__" :=
 .of (owner:="reversed") (n:="__iter__") (by rw [typeLookup_type,builtinLookup_eq_fast]; kernel_rfl) (by decide +kernel) (by decide +kernel) (by decide +kernel) (by first | exact .inl (by decide +kernel) | exact .inr (by decide +kernel)) (by rw [isSubtype_type]; kernel_rfl)
theorem args_iter (a:Value):argsOk "reversed.__iter__" ⟨[a],[]⟩:=by unfold argsOk; kernel_rfl
theorem entry_iter:entryFor table "reversed.__iter__" = some Builtin.«dict_keyiterator.__iter__» :=
 entryFor_alias (id':="dict_keyiterator.__iter__") (by kernel_rfl) (by first | rfl | decide +kernel) (by decide +kernel) (by kernel_rfl)
section
variable {prog:Program} {w:World} {A:Around} {E:Value→Shared→Prop} {s:Shared} {r t:Addr} {its:Array Value}
theorem iter_self {i:Int} {Q:Value→Shared→Prop} (hr:IsRv s.heap r t i) (h:Q (.ref r) s):wpAny (model prog w) A (pyIter (.ref r)) Q E s:=by
 refine wpAny_pyIter_slot hr.ty slot_iter (wpAny_call_entry slot_iter hr.ty entry_iter ?_ (args_iter _))
 change wpAny _ _ (ret (.ref r)) _ _ s
 exact wpAny_pure ⟨_,rfl,"reversed",_,hr.ty,slot_next.lookup,h⟩
theorem IsRv.at {h h':Heap} {i:Int} (x:IsRv h r t i) (e:∀ o,h.get? r = some o→h'.get? r = some o):IsRv h' r t i:=let ⟨o,ho,q⟩:=x; ⟨o,e o ho,q⟩
end
section
variable {prog:Program} {w:World} {A:Around} {E:Value→Shared→Prop} {s:Shared} {R:Result→Shared→Prop} {I S:Addr} {fp wr:List Addr} {n:Nat} {P:Nat→Value→Prop} {St:Nat→Heap→Prop} {T:String}
end
section
variable {prog:Program} {w:World} {A:Around} {E:Value→Shared→Prop} {s:Shared} {I:Addr} {fp wr:List Addr} {n:Nat} {P:Nat→Value→Prop} {St:Nat→Heap→Prop} {T:String}
end
section
variable {prog:Program} {w:World} {A:Around} {E:Value→Shared→Prop} {s:Shared} {r t:Addr} {its:Array Value}
end
section
variable {prog:Program} {w:World} {A:Around} {E:Value→Shared→Prop} {s:Shared} {I:Addr} {fp wr:List Addr} {n:Nat} {P:Nat→Value→Prop} {St:Nat→Heap→Prop} {T:String}
end
section
variable {prog:Program} {w:World} {A:Around} {E:Value→Shared→Prop} {s:Shared}
end
end RevA
namespace IdxT
open PySem PySem.SeqAt PySem.MeetsSeq
open PySem.AutoSeq1 (wpAny_loadPart')
end IdxT
namespace L2
open PySem PySem.Spec PyProof.Rows
section
variable {X:Cx} {p p2 pos pos2:Pos} {a:Expr} {t:TA}
end
section
variable {X:Cx} {e:Expr} {t1 t2:TE}
end
section
variable {X:Cx} {p p2 pos pos2:Pos} {a:Expr} {t:TA}
def Irv (K:PySem.W.Frag) (a:Addr) (xs:List V):It:=⟨fun i H => i < xs.length∧Z9 K H a xs,fun i H x H' => H' = H∧xs.reverse[i]? = some x,fun i H => xs.length ≤ i⟩
theorem turn_rev {P:Program} {w:World} {K:PySem.W.Frag} {tg:Expr} (a it:Addr) (xs:List V) (hz:xs.length ≤ sizeLine):Turn P w K tg (Irv K a xs) [it] it (fun i h => i ≤ xs.length∧RevA.IsRv h it a ((xs.length:Int) - 1 - (i:Int))) where
 mem:=by simp
 obj:=fun i h st b hb => by
  have e:b = it:=by simpa using hb
  subst e
  obtain ⟨_,o,e,c,d⟩:=st
  exact ⟨o,e,fun v z => by rw [d] at z; cases z⟩
 keep:=fun i h h' st k => ⟨st.1,st.2.at fun o e => k it (by simp) o e⟩
 item:=by
  intro X hP hw hK hc i pins s σ H E I hf st hg
  subst hP hw hK
  obtain ⟨hi,hq⟩:=hg
  obtain ⟨its,rv,p,_⟩:=I.tuple hq
  have hl:=rv.length
  have hsz:its.toArray.size = xs.length:=by rw [List.size_toArray]; exact hl.symm
  obtain ⟨f0,f1,f2,f3,f4,f5⟩:=hf it (by simp)
  have hr:=st.2
  rw [show (xs.length:Int) - 1 - (i:Int) = ((xs.length - 1 - i:Nat):Int) by omega] at hr
  have hx:xs[xs.length - 1 - i]? = some (xs[xs.length - 1 - i]'(by omega)):=List.getElem?_eq_getElem (by omega)
  obtain ⟨u,hu,ru⟩:=rv.get hx
  have h63:((its.toArray.size:Nat):Int) < 2 ^ 63:=by have:=sizeLine_eq; omega
  refine RevA.next_item hr p (x:=u) (by simpa using hu) h63 fun h' tk hr' hs => ?_
  have I1:Zn X pins σ H { s with heap:=h',toks:=tk }:=I.turned (fun b o hb e => (hs.2 b hb).trans e) f0 f1 f3 f4 f5
  obtain ⟨o,e,c,d⟩:=id hr'
  rw [show ((xs.length - 1 - i:Nat):Int) - 1 = (xs.length:Int) - 1 - ((i + 1:Nat):Int) by omega] at hr'
  refine ⟨u,rfl,go_of (s:={ s with heap:=h',toks:=tk }) e c d (by decide) ⟨_,H,I1,ru,⟨rfl, ?_⟩,⟨hi,hr'⟩,fun b hb => (hf b hb).1⟩⟩
  rw [List.getElem?_reverse hi]
  exact hx
 done:=by
  intro X hP hw hK hc i pins s σ H E I hf st hg
  subst hP hw hK
  obtain ⟨f0,f1,f2,f3,f4,f5⟩:=hf it (by simp)
  have hr:=st.2
  have hi:(i:Int) = xs.length:=by have:xs.length ≤ i:=hg; have:=st.1; omega
  rw [show (xs.length:Int) - 1 - (i:Int) = -1 by omega] at hr
  exact RevA.next_end (I.ok.hd hc) hr fun h' k => ⟨rfl,I.turned (t':=s.toks) (fun b o hb e => k b o hb e) f0 f1 f3 f4 f5⟩
 self:=fun _ _ _ _ _ st h => RevA.iter_self st.2 h
def iRev (K:PySem.W.Frag) (t:TA):TI:=fun σ H R => t σ H fun vs H1 => ∃ p xs,vs = [.ref p]∧Z9 K H1 p xs∧R (Irv K p xs) H1
theorem pi_rev {tg:Expr} (hgz:Gl X "reversed") (hmz:X.mg "reversed" = none) (ha:PA X [a] t)
  (he2:starEach [a] X.env = (false,eval a X.env) :: starEach [] X.env:=by rfl) (hpl:(backTo pos2 (starEach [] X.env)).any (·.1) = false:=by rfl) :
  PI X tg (.Call (.Name "reversed" p2) [a] [] pos2) (iRev X.K t):=by
 intro pins s σ H R I h
 refine wpAny_Call_Name_kw (ld_blt I hgz hmz (by decide +kernel:bootBuiltins "reversed" = some (.type "reversed")) ?_ (by decide) (by decide))
 refine callWith_type1 (Vx (ha pos2 pins s σ H _ I h) fun us s1 ⟨vs,H1,I1,r1,q1⟩ => ?_) he2 hpl
 obtain ⟨l,xs,rfl,hx,q⟩:=q1
 obtain ⟨u1,rfl,e1⟩:=vals1 r1
 cases e1
 obtain ⟨its,rv,pl,z⟩:=I1.tuple hx
 have hl:=rv.length
 have hsz:its.toArray.size = xs.length:=by rw [List.size_toArray]; exact hl.symm
 have h63:((its.toArray.size:Nat):Int) < 2 ^ 63:=by have:=sizeLine_eq; omega
 refine RevA.call_rev pl h63 fun tk => ?_
 have J:Zn X pins σ H1 { s1 with heap:=s1.heap.push (RevA.rvO l ((its.toArray.size:Int) - 1)),toks:=tk }:=I1.kept fun b o e => Heap.get?_push_of_some _ e
 have rv1:RevA.IsRv (s1.heap.push (RevA.rvO l ((its.toArray.size:Int) - 1))) s1.heap.objs.size l ((its.toArray.size:Int) - 1):=⟨_,Heap.get?_push_size _ rfl,rfl,rfl⟩
 refine RevA.iter_self (s:={ s1 with heap:=_,toks:=tk }) rv1 ?_
 refine ⟨_,[s1.heap.objs.size],_,_,H1,rfl,J,turn_rev l _ xs z,⟨Nat.zero_le _, ?_⟩,fun b hb => ?_,q⟩
 ·rw [hsz] at rv1
  simpa [hsz] using rv1
 ·have e:b = s1.heap.objs.size:=by simpa using hb
  subst e
  exact I1.fpOk (Nat.le_refl _) (I1.hok.fresh (Nat.le_refl _))
end
theorem for_rev {K:PySem.W.Frag} {a:Addr} {xs:List V} {g:TG} {tb:TS} {D:Ends} {σ:St} {H:Hp} (Pv:Nat→St→Hp→Prop) (h0:Pv 0 σ H) (hl:∀ i σ H,i ≤ xs.length→Pv i σ H→Z9 K H a xs)
  (hs:∀ i x σ H,xs.reverse[i]? = some x→Pv i σ H→g x σ H fun σ2 H2 => tb { D with nx:=Pv (i + 1),ct:=Pv (i + 1),bk:=D.nx } σ2 H2) (hd:∀ σ H,Pv xs.length σ H→D.nx σ H) :
  ∃ W:Nat→Nat→St→Hp→Prop,(∃ m,W 0 m σ H)∧∀ i m σ H,W i m σ H →
   ((Irv K a xs).stop i H∧D.nx σ H) ∨ ((Irv K a xs).go i H∧∃ N:St→Hp→Prop,(∀ σ' H',N σ' H'→∃ m',m' < m∧W (i + 1) m' σ' H')∧∀ x H',(Irv K a xs).yld i H x H'→g x σ H' fun σ2 H2 => tb { D with nx:=N,ct:=N,bk:=D.nx } σ2 H2):=by
 refine ⟨fun i m σ H => m = xs.length - i∧i ≤ xs.length∧Pv i σ H,⟨xs.length,by simp,Nat.zero_le _,h0⟩, ?_⟩
 rintro i m σ H ⟨rfl,hi,p⟩
 have q:=hl i σ H hi p
 by_cases hlt:i < xs.length
 ·refine .inr ⟨⟨hlt,q⟩,Pv (i + 1),fun σ' H' p' => ⟨xs.length - (i + 1),by omega,rfl,hlt,p'⟩,fun x H' y => ?_⟩
  obtain ⟨e,y⟩:=y
  subst e
  exact hs i x σ _ y p
 ·have e:i = xs.length:=by omega
  subst e
  exact .inl ⟨Nat.le_refl _,hd σ H p⟩
section
variable {X:Cx}
theorem eqStrs {ss:List Str} {us:List Value} (r:Z1 (ss.map V.str) us):∀ y ∈ us,∃ x t,x ∈ ss∧y = .str x t:=by
 induction ss generalizing us with
 | nil => intro y m; cases r; exact (List.not_mem_nil m).elim
 | cons x ss ih =>
  intro y m
  cases r with
  | cons e t =>
   obtain ⟨tk,rfl⟩:=e
   rcases List.mem_cons.mp m with rfl | m
   ·exact ⟨x,tk,List.mem_cons_self,rfl⟩
   ·obtain ⟨x',t',mx,e⟩:=ih t y m
    exact ⟨x',t',List.mem_cons_of_mem _ mx,e⟩
def isS (z:Str) (v:Value):Bool:=match v with
 | .str x _ => decide (x = z)
 | _ => false
theorem isS_at {ss:List Str} {us:List Value} (r:Z1 (ss.map V.str) us) {m:Nat} (h:m < us.length) (z:Str):isS z us[m] = decide (ss[m]? = some z):=by
 have hl:m < ss.length:=by have:=r.length; rw [List.length_map] at this; omega
 obtain ⟨u,e,q⟩:=r.get (i:=m) (x:=.str ss[m]) (by rw [List.getElem?_map,List.getElem?_eq_getElem hl]; rfl)
 rw [List.getElem?_eq_getElem h] at e
 cases e
 obtain ⟨t,e2⟩:=q
 rw [e2,List.getElem?_eq_getElem hl]
 show decide (ss[m] = z) = _
 simp
def rIndex (Sq:Hp→Addr→List V→Prop):V→List V→Hp→VK→Prop:=fun x xs H Q => ∃ (a:Addr) (ss:List Str) (z:Str) (j:Nat),x = .ref a∧xs = [.str z]∧Sq H a (ss.map V.str)∧ss[j]? = some z∧(∀ m,m < j→ss[m]? ≠ some z)∧Q (.int j) H
theorem mt_indexL:MtM X "list.index" (rIndex (Yg X.K)):=by
 intro pins s σ H x vs v us Q I rx rv h
 obtain ⟨a,ss,z,j,rfl,rfl,hq,hj,hno,q⟩:=h
 cases rx
 obtain ⟨u,rfl,ru⟩:=rv.one
 obtain ⟨tz,rfl⟩:=ru
 obtain ⟨its,r,pl,hz⟩:=I.list hq
 obtain ⟨⟨cl,dd,dt,sl⟩,e,hc,n,hd⟩:=pl.isList
 simp only at hc hd
 subst hc hd
 have hl:=r.length
 rw [List.length_map] at hl
 have hjl:=(List.getElem?_eq_some_iff.mp hj).1
 rw [List.length_map] at hz
 have hsm:(j:Int) < 2 ^ 63 - 1:=by have:=sizeLine_eq; omega
 refine call_meets PySem.F.slot_list_index ⟨_,e,rfl⟩ PySem.F.entry_list_index (PySem.F.args_list_index_2 _ _) (SeqAt.list_indexAt a its.toArray n dd sl (.str z tz) (isS z) j (by simp; omega) hsm ?_ fun m hm h2 => ?_) ⟨e,fun y hy => ?_,⟨.int j,H,I.tok _,⟨_,rfl⟩,q⟩⟩
 ·have:=isS_at r (m:=j) (by omega) z
  simp only [List.getElem_toArray]
  rw [this,decide_eq_true hj]
 ·have:=isS_at r (m:=m) (by simpa using hm) z
  simp only [List.getElem_toArray]
  rw [this,decide_eq_false (hno m h2)]
 ·obtain ⟨x,t,_,rfl⟩:=eqStrs r y (by simpa using hy)
  exact fun prog w E Q hq => wpAny_eqBool_str hq
structure TopD (K:PySem.W.Frag) (w:World) (a:Addr):Prop where
 at':∃ es n,K.lookup a = some ⟨.type "dict",none,.dict es n, #[]⟩∧PySem.W.KeysLit w.params es.toList
def rTopD (K:PySem.W.Frag) (w:World):R2:=fun x y H Q => ∃ (a:Addr) (z:Str) (v:V) (u:Value),x = .ref a∧y = .str z∧TopD K w a∧PySem.W.nsIn K a z = some (some u)∧Z6 v u∧Q v H
theorem ix_topD:IxR X (rTopD X.K X.w):=by
 intro value slice pins s σ H x y v u Q I rx ry h hs
 obtain ⟨a,z,v',u',rfl,rfl,⟨es,n,hl,hk⟩,e,r,q⟩:=h
 cases rx
 obtain ⟨t,rfl⟩:=ry
 have hm:=PySem.W.mapOf_K (prog:=X.prog) I.kIn hl hk
 exact tail_any hm.typeIs slot_dict_getitem.lookup (wpAny_getItem_of (strKind_is X.prog X.w z t) hm (PySem.W.find_K hl e) ⟨v',H,I.tok _,r,q⟩) hs
end
section
variable {X:Cx} {k:Nat} {C:Addr} {m x:Str} {ps:List Str} {sp:Sp} {o e:Expr} {es:List Expr} {ta:TE} {t:TA} {p pos apos:Pos}
end
end L2
namespace EnuT
open PySem
section
variable {prog:Program} {w:World} {A:Around} {E:Value→Shared→Prop} {s:Shared}
theorem nextT {it t:Addr} {i:Nat} {its:Array Value} {x:Value} {Q:Value→Shared→Prop} (hi:s.heap.IsTupleIter it t i) (ht:s.heap.IsTuple t its) (hx:its[i]? = some x)
  (q:∀ h',h'.IsTupleIter it t (i + 1)→Heap.SameBut it s.heap h'→Q x { s with heap:=h' }):wpAny (model prog w) A (Builtin.SmallTypes.nextOf (.ref it)) Q E s:=by
 obtain ⟨u,hu,hc,hd⟩:=id hi; obtain ⟨p,hp,_,n,dp⟩:=ht; unfold Builtin.SmallTypes.nextOf
 refine wpAny_bind (wpAny_callSpecial?_slot (name:=Str.ofString "__next__") hi.typeIs F.slot_tuple_iterator_next (wpAny_call_entry F.slot_tuple_iterator_next hi.typeIs F.entry_tuple_iterator_next ?_ (F.args_tuple_iterator_next_1 _)))
 show wpAny _ _ (field (.ref it) 0 >>= _) _ _ s; refine wpAny_bind (wpAny_field hu hd (x:=.ref t) rfl ?_)
 show wpAny _ _ (if (Value.ref t == Value.none) = true then _ else _) _ _ s; rw [if_neg (show ¬ ((Value.ref t == Value.none) = true) from Bool.false_ne_true)]
 show wpAny _ _ (field (.ref it) 1 >>= _) _ _ s; refine wpAny_bind (wpAny_field hu hd (x:=.int i 0) rfl ?_)
 show wpAny _ _ (seqItems? (.ref t) >>= _) _ _ s; refine wpAny_bind (wpAny_seqItems hp dp ?_)
 simp only [Int.toNat_natCast,hx]; refine wpAny_bind (wpAny_setField hu hd (by simp) (wpAny_pure ⟨x,rfl,wpAny_pure (q _ ?_ (Heap.SameBut.update ..))⟩))
 exact ⟨_,Heap.get?_update_self _ hu (Obj.isFreed_of_fields (Obj.data_mapFields hd _)),(Obj.cls_mapFields ..).trans hc,by rw [Obj.data_mapFields hd]; simp [rawInt]⟩
theorem endT {it t:Addr} {i:Nat} {its:Array Value} {Q:Value→Shared→Prop} (hh:A.handled = none) (hi:s.heap.IsTupleIter it t i) (ht:s.heap.IsTuple t its) (hx:its[i]? = none)
  (q:∀ h' e,Heap.ExtBut it s.heap h'→(∃ o,h'.get? e = some o∧o.cls = .type "StopIteration")→E (.ref e) { s with heap:=h' }):wpAny (model prog w) A (Builtin.SmallTypes.nextOf (.ref it)) Q E s:=by
 obtain ⟨u,hu,hc,hd⟩:=id hi; obtain ⟨p,hp,_,n,dp⟩:=ht; unfold Builtin.SmallTypes.nextOf
 refine wpAny_bind (wpAny_callSpecial?_slot (name:=Str.ofString "__next__") hi.typeIs F.slot_tuple_iterator_next (wpAny_call_entry F.slot_tuple_iterator_next hi.typeIs F.entry_tuple_iterator_next ?_ (F.args_tuple_iterator_next_1 _)))
 show wpAny _ _ (field (.ref it) 0 >>= _) _ _ s; refine wpAny_bind (wpAny_field hu hd (x:=.ref t) rfl ?_)
 show wpAny _ _ (if (Value.ref t == Value.none) = true then _ else _) _ _ s; rw [if_neg (show ¬ ((Value.ref t == Value.none) = true) from Bool.false_ne_true)]
 show wpAny _ _ (field (.ref it) 1 >>= _) _ _ s; refine wpAny_bind (wpAny_field hu hd (x:=.int i 0) rfl ?_)
 show wpAny _ _ (seqItems? (.ref t) >>= _) _ _ s; refine wpAny_bind (wpAny_seqItems hp dp ?_)
 simp only [Int.toNat_natCast,hx]; refine wpAny_bind (wpAny_rule (wpAny_bind (wpAny_setField hu hd (by simp) ?_)))
 show wpAny _ _ (newExc (.type "StopIteration") [] >>= _) _ _ _; refine wpAny_bind ?_; simp only [newExc,newTuple]
 refine wpAny_bind (wpAny_newObj_type ?_ (by size_fits)); refine wpAny_bind (m:=firstArgMember _ _) (wpAny_of_eq (a:=Value.none) (by first | rfl | (simp only [firstArgMember]; rfl)) ?_)
 refine wpAny_newObj_type ?_ (by size_fits); simp only [raiseNew]; refine wpAny_bind (wpAny_handled ?_)
 first | rw [show A.in1.handled = none from hh] | rw [hh]
 refine wpAny_bind (wpAny_pure (wpAny_throw ?_)); exact q _ _ (((Heap.SameBut.update ..).extBut.push _).push _) ⟨_,Heap.get?_push_size _ rfl,rfl⟩
end
theorem drawsT {prog:Program} {w:World} {A:Around} (hh:A.handled = none) (it t:Addr) (hne:t ≠ it) (its:Array Value) :
  Draws prog w A it [it,t] its.size (fun i v => its[i]? = some v) (fun i h => h.IsTupleIter it t i∧h.IsTuple t its) where
 live:=fun _ _ st => let ⟨o,ho,_⟩:=st.1; ⟨o,ho⟩
 frame:=fun _ _ _ st hk => ⟨let ⟨o,ho,r⟩:=st.1; ⟨o,hk it (by simp) o ho,r⟩,let ⟨o,ho,r⟩:=st.2; ⟨o,hk t (by simp) o ho,r⟩⟩
 item:=fun i s Q E hi st hQ => nextT st.1 st.2 (x:=its[i]) (by simp [hi]) fun h' a b => hQ _ h' s.toks (by simp [hi]) ⟨a,st.2.extBut b.extBut hne⟩ b
 done:=fun s Q E st hE => endT hh st.1 st.2 (by simp) hE
theorem meetsT (t:Addr) (its:Array Value) (n:Nat) (dct:Option Addr) (sl:Array (Option Value)) :
  Meets (Builtin.«enumerate.__new__» ⟨[.type "enumerate",.ref t],[]⟩) (fun _ R s => s.heap.get? t = some { cls:=.type "tuple",dict:=dct,data:=.seq its n,slots:=sl } ∧
   R (.ok (.ret (.ref (s.heap.push { cls:=.type "tuple_iterator",data:=.fields #[.ref t,.int 0 0] }).objs.size)))
    { s with heap:=(s.heap.push { cls:=.type "tuple_iterator",data:=.fields #[.ref t,.int 0 0] }).push { cls:=.type "enumerate",data:=.fields #[.none,.bool false,.ref s.heap.objs.size,rawInt 0,.none,.none] } }) :=
 .of_wp fun prog w A R s h => by
  obtain ⟨hp,g,d,tk,os⟩:=s
  obtain ⟨ht,h⟩:=h
  have hs:=sub_enumerate
  have hT:Heap.IsTuple (Shared.heap ⟨hp,g,d,tk,os⟩) t its:=⟨_,ht,rfl,n,rfl⟩
  wp_walk using AutoSeq1.wpAny_loadPart' ht
  refine wpAny_stack_any fun st => wpAny_pure ?_
  split
  ·rename_i c _ _ _ _ _
   cases (c == Value.type "enumerate") <;> (wp_walk using AutoSeq1.wpAny_loadPart' ht,wpAny_pyIter_tuple hT; exact ⟨_,rfl,h⟩)
  ·wp_walk using AutoSeq1.wpAny_loadPart' ht,wpAny_pyIter_tuple hT
   exact ⟨_,rfl,h⟩
section
variable {prog:Program} {w:World} {A:Around} {E:Value→Shared→Prop} {s:Shared}
theorem callT {t:Addr} {its:Array Value} {Q:Value→Shared→Prop} (hT:s.heap.IsTuple t its)
  (q:∀ h',IsEnum h' (s.heap.objs.size + 1) s.heap.objs.size 0 .none→h'.IsTupleIter s.heap.objs.size t 0→(∀ b o,s.heap.get? b = some o→h'.get? b = some o)→Q (.ref (s.heap.objs.size + 1)) { s with heap:=h' }) :
  wpAny (model prog w) A (call (.type "enumerate") [.ref t]) Q E s:=by
 obtain ⟨⟨c,dct,dt,sl⟩,hl,hc,n,hd⟩:=hT
 obtain rfl:c = .type "tuple" := hc
 obtain rfl:dt = .seq its n:=hd
 refine callType_new F.called_enumerate (by decide) (F.typeCall_enumerate_1 _) (F.newCall_enumerate_1 _) (fun obj => F.args_object_init_2 obj _) F.entry_enumerate_new (meetsT t its n dct sl) ⟨hl, ?_⟩
 have hz:(s.heap.push { cls:=.type "tuple_iterator",data:=.fields #[.ref t,.int 0 0] }).objs.size = s.heap.objs.size + 1:=Heap.size_push ..
 show _∧_
 rw [hz]
 have he:IsEnum ((s.heap.push { cls:=.type "tuple_iterator",data:=.fields #[.ref t,.int 0 0] }).push { cls:=.type "enumerate",data:=.fields #[.none,.bool false,.ref s.heap.objs.size,rawInt 0,.none,.none] }) (s.heap.objs.size + 1) s.heap.objs.size 0 .none:=by
  have z:=Heap.get?_push_size (s.heap.push { cls:=.type "tuple_iterator",data:=.fields #[.ref t,.int 0 0] }) (o:={ cls:=.type "enumerate",data:=.fields #[.none,.bool false,.ref s.heap.objs.size,rawInt 0,.none,.none] }) rfl
  rw [hz] at z; exact z
 exact ⟨⟨_,he,rfl⟩,q _ he ⟨_,Heap.get?_push_of_some _ (Heap.get?_push_size _ rfl),rfl,rfl⟩ fun b o x => Heap.get?_push_of_some _ (Heap.get?_push_of_some _ x)⟩
end
end EnuT
namespace L2
open PySem PySem.Spec PyProof.Rows
def Itn (K:PySem.W.Frag) (a:Addr) (xs:List V):It :=
  ⟨fun i H => i < xs.length∧Z9 K H a xs,
   fun i H v H' => ∃ p x,v = .ref p∧H p = none∧H' = Zo H p (.tup [.int i,x])∧xs[i]? = some x,
   fun i H => xs.length ≤ i∧Z9 K H a xs⟩
theorem turn_enum {P:Program} {w:World} {K:PySem.W.Frag} {es:List Expr} {k:Nat} {pos:Pos} (e it a:Addr) (xs:List V) (hei:e ≠ it) (hae:a ≠ e) (hai:a ≠ it) :
  Turn P w K (.Tuple es k pos) (Itn K a xs) [e,it] e (fun i h => i ≤ xs.length∧(∃ old,IsEnum h e it ((i:Nat):Int) old)∧h.IsTupleIter it a i) where
 mem:=by simp
 obj:=fun i h st b hb => by
  obtain ⟨_,⟨old,he⟩,⟨o,eo,_,d⟩⟩:=st
  simp only [List.mem_cons,List.not_mem_nil,or_false] at hb
  rcases hb with rfl | rfl
  ·exact ⟨_,he,fun v q => nomatch q⟩
  ·exact ⟨_,eo,fun v q => by rw [d] at q; cases q⟩
 keep:=fun i h h' st hk => by
  obtain ⟨hi,⟨old,he⟩,ht⟩:=st
  exact ⟨hi,⟨old,hk e (by simp) _ he⟩,ht.at fun o eo => hk it (by simp) o eo⟩
 item:=by
  intro X hP hw hK hc i pins s σ H E I hf st hg
  subst hP hw hK
  obtain ⟨hlt,hq⟩:=hg
  obtain ⟨hi,⟨old,he⟩,ht⟩:=st
  obtain ⟨its,rv,p,_⟩:=I.tuple hq
  have hx:xs[i]? = some xs[i]:=List.getElem?_eq_getElem hlt
  obtain ⟨u,hu,ru⟩:=rv.get hx
  have hsz:its.toArray.size = xs.length:=by rw [List.size_toArray]; exact rv.length.symm
  refine wpAny_pyNext_enum_itemD (EnuT.drawsT (A:=X.A.in1) (I.ok.hd hc) it a hai its.toArray) he ⟨ht,p⟩ (by omega) hei (by simp only [List.mem_cons,List.not_mem_nil,or_false,not_or]; exact ⟨hei,fun q => hae q.symm⟩) fun y h' tk py ho st' ht' hz' hk => ?_
  have ey:y = u:=by
   have z:its.toArray[i]? = some u:=by simpa using hu
   exact Option.some.inj (py.symm.trans z)
  subst ey
  refine ⟨_,rfl,wpAny_letOwnedTupleGo_enum (s:={ s with heap:=h',toks:=tk + 1 }) ho fun h'' he'' hs'' => ?_⟩
  have lt:∀ {c o},s.heap.get? c = some o→s.heap.objs.size ≠ c:=fun q => Nat.ne_of_gt (Heap.lt_size q)
  have ne:s.heap.objs.size ≠ e:=lt he
  have kk:∀ c o,c ∉ [e,it]→s.heap.get? c = some o→h''.get? c = some o:=fun c o m q => by
   simp only [List.mem_cons,List.not_mem_nil,or_false,not_or] at m
   exact hs''.extBut _ _ m.1 (hk c o m.1 m.2 q)
  have J:Zn X pins σ (Zo H s.heap.objs.size (.tup [.int i,xs[i]])) { s with heap:=h'',toks:=tk + 1 }:=I.turnLay kk hf (Nat.le_refl _) ⟨by show 2 ≤ sizeLine; decide,[.int i tk,y],.cons ⟨tk,rfl⟩ (.cons ru .nil),⟨_,hs''.extBut _ _ ne ht',rfl,_,rfl⟩⟩
  refine ⟨.ref s.heap.objs.size,_,J,rfl,⟨_,_,rfl,I.hok.fresh (Nat.le_refl _),rfl,hx⟩,⟨by omega,⟨_,by have:=he''; simpa using this⟩,st'.1.extBut hs''.extBut (fun q => hei q.symm)⟩,fun c hc => ?_⟩
  have nc:c ≠ s.heap.objs.size:=fun q => by
   subst q
   simp only [List.mem_cons,List.not_mem_nil,or_false] at hc
   rcases hc with q | q
   ·exact lt he q
   ·obtain ⟨_,eo,_⟩:=ht; exact lt eo q
  rw [Zt nc]
  exact (hf c hc).1
 done:=by
  intro X hP hw hK hc i pins s σ H E I hf st hg
  subst hP hw hK
  obtain ⟨hge,hq⟩:=hg
  obtain ⟨hi,⟨old,he⟩,ht⟩:=st
  obtain ⟨its,rv,p,_⟩:=I.tuple hq
  have hsz:its.toArray.size = xs.length:=by rw [List.size_toArray]; exact rv.length.symm
  have ei:i = its.toArray.size:=by omega
  rw [ei] at ht
  refine wpAny_pyNext_enum_endD (EnuT.drawsT (A:=X.A.in1) (I.ok.hd hc) it a hai its.toArray) he ⟨ht,p⟩ fun h' eb => ⟨rfl,I.turnL (t':=s.toks) (fp:=[e,it]) (fun c u m q => ?_) hf⟩
  simp only [List.mem_cons,List.not_mem_nil,or_false,not_or] at m
  exact eb c u m.2 q
 self:=fun A i s Q E st h => by
  obtain ⟨_,⟨old,he⟩,_⟩:=st
  exact wpAny_pyIter_enum he h
def iEnum (K:PySem.W.Frag) (t:TA):TI:=fun σ H R => t σ H fun vs H1 => ∃ p xs,vs = [.ref p]∧Z9 K H1 p xs∧R (Itn K p xs) H1
section
variable {X:Cx} {es:List Expr} {k:Nat} {p2 pos pos2:Pos} {a:Expr} {t:TA}
theorem pi_enum (hgz:Gl X "enumerate") (hmz:X.mg "enumerate" = none) (ha:PA X [a] t)
  (he2:starEach [a] X.env = (false,eval a X.env) :: starEach [] X.env:=by rfl) (hpl:(backTo pos2 (starEach [] X.env)).any (·.1) = false:=by rfl) :
  PI X (.Tuple es k pos) (.Call (.Name "enumerate" p2) [a] [] pos2) (iEnum X.K t):=by
 intro pins s σ H R I h
 refine wpAny_Call_Name_kw (ld_blt I hgz hmz (by decide +kernel:bootBuiltins "enumerate" = some (.type "enumerate")) ?_ (by decide) (by decide))
 refine callWith_type1 (Vx (ha pos2 pins s σ H _ I h) fun us s1 ⟨vs,H1,I1,r1,q1⟩ => ?_) he2 hpl
 obtain ⟨l,xs,rfl,hx,q⟩:=q1
 obtain ⟨u1,rfl,e1⟩:=vals1 r1
 cases e1
 obtain ⟨its,rv,pl,z⟩:=I1.tuple hx
 have nl:l < s1.heap.objs.size:=by obtain ⟨_,e,_⟩:=id pl; exact Heap.lt_size e
 refine EnuT.callT (show s1.heap.IsTuple l its.toArray from pl) fun h2 b1 b2 k2 => ?_
 refine wpAny_pyIter_enum (s:={ s1 with heap:=h2 }) b1 ?_
 have J:Zn X pins σ H1 { s1 with heap:=h2,toks:=s1.toks }:=I1.kept k2
 refine ⟨_,[s1.heap.objs.size + 1,s1.heap.objs.size],_,_,H1,rfl,J,turn_enum _ _ l xs (Nat.succ_ne_self _) (Nat.ne_of_lt (Nat.lt_succ_of_lt nl)) (Nat.ne_of_lt nl),⟨Nat.zero_le _,⟨_,b1⟩,b2⟩,fun c hc => ?_,q⟩
 have ge:s1.heap.objs.size ≤ c:=by
  simp only [List.mem_cons,List.not_mem_nil,or_false] at hc
  rcases hc with q | q <;> rw [q] <;> first | exact Nat.le_refl _ | exact Nat.le_add_right _ _
 exact I1.fpOk ge (I1.hok.fresh ge)
end
theorem for_enum {K:PySem.W.Frag} {a:Addr} {xs:List V} {g:TG} {tb:TS} {D:Ends} {σ:St} {H:Hp} (Pv:Nat→St→Hp→Prop) (h0:Pv 0 σ H) (hl:∀ i σ H,i ≤ xs.length→Pv i σ H→Z9 K H a xs)
  (hs:∀ i x p σ H,xs[i]? = some x→Pv i σ H→H p = none→g (.ref p) σ (Zo H p (.tup [.int i,x])) fun σ2 H2 => tb { D with nx:=Pv (i + 1),ct:=Pv (i + 1),bk:=D.nx } σ2 H2) (hd:∀ σ H,Pv xs.length σ H→D.nx σ H) :
  ∃ W:Nat→Nat→St→Hp→Prop,(∃ m,W 0 m σ H)∧∀ i m σ H,W i m σ H →
   ((Itn K a xs).stop i H∧D.nx σ H) ∨ ((Itn K a xs).go i H∧∃ N:St→Hp→Prop,(∀ σ' H',N σ' H'→∃ m',m' < m∧W (i + 1) m' σ' H')∧∀ x H',(Itn K a xs).yld i H x H'→g x σ H' fun σ2 H2 => tb { D with nx:=N,ct:=N,bk:=D.nx } σ2 H2):=by
 refine ⟨fun i m σ H => m = xs.length - i∧i ≤ xs.length∧Pv i σ H,⟨xs.length,by simp,Nat.zero_le _,h0⟩, ?_⟩
 rintro i m σ H ⟨rfl,hi,p⟩
 have q:=hl i σ H hi p
 by_cases hlt:i < xs.length
 ·refine .inr ⟨⟨hlt,q⟩,Pv (i + 1),fun σ' H' p' => ⟨xs.length - (i + 1),by omega,rfl,hlt,p'⟩,fun x H' y => ?_⟩
  obtain ⟨r,z,rfl,hr,rfl,hz⟩:=y
  exact hs i z r σ H hz p hr
 ·have e:i = xs.length:=by omega
  subst e
  exact .inl ⟨⟨Nat.le_refl _,q⟩,hd σ H p⟩
section
variable {X:Cx}
end
section
variable {X:Cx} {p p2 pos pos2:Pos} {a b:Expr} {t:TA}
end
end L2
namespace EX
open PySem
structure Noted (l:List Env) (e T:Addr) (oe:Obj) (h h':Heap):Prop where
 keep:∀ b o,b ≠ e→b ∉ l.filterMap (·.frame)→h.get? b = some o→h'.get? b = some o
 slot:∀ b o,b ≠ e→h.get? b = some o→∃ sl,h'.get? b = some { o with slots:=sl }
 exc:h'.get? e = some (oe.mapFields (·.setIfInBounds 1 (.ref T)))
 new:h.objs.size ≤ T
 tb:∃ oT ts,h'.get? T = some oT∧oT.data = .fields ts∧3 < ts.size
section
variable {M:Model} {A:Around} {E:Value→Shared→Prop} {s:Shared} {env:Env} {outer:List Env} {base:Heap} {L e T:Addr} {oe:Obj} {vs:Array Value} {Q:Unit→Shared→Prop}
theorem frames_ne (hl:s.heap.FunFrames base (env :: outer)) (he:s.heap.get? e = some oe) (hd:oe.data = .fields vs):e ∉ (env :: outer).filterMap (·.frame):=fun hm => by
 obtain ⟨_,o,ho,hn⟩:=hl.mem hm
 rw [he] at ho
 cases ho
 exact hn vs hd
theorem note_new (hfr:A.frames = some (env :: outer)) (hl:s.heap.FunFrames base (env :: outer)) (hf:env.frame = some L)
  (he:s.heap.get? e = some oe) (hd:oe.data = .fields vs) (h1:vs[1]? = some .none)
  (h:∀ h' T,Noted (env :: outer) e T oe s.heap h'→Q () { s with heap:=h' }):wpAny M A (noteFrame (.ref e) env) Q E s:=by
 have hz:1 < vs.size:=(Array.getElem?_eq_some_iff.mp h1).1
 have hne:=frames_ne hl he hd
 unfold noteFrame
 simp only [hf]
 refine wpAny_bind (wpAny_field he hd h1 ?_)
 rw [if_neg (by decide)]
 refine wpAny_bind (wpAny_frameOf_fun hfr hl hf fun h₁ sl => wpAny_bind (wpAny_entryPlaceOf fun pl hpl => ?_))
 unfold EntryCells.newEntry newFields
 refine wpAny_bind (wpAny_newObj_type ?_ (hpl.sizeOk5 _ _ _ _ _))
 have e1:h₁.get? e = some oe:=(sl.2.1 e hne).trans he
 have z1:h₁.objs.size = s.heap.objs.size:=sl.1
 refine wpAny_setField (Heap.get?_push_of_some _ e1) hd hz (h _ h₁.objs.size ⟨fun b o hb hn q => ?_,fun b o hb q => ?_, ?_,Nat.le_of_eq z1.symm, ?_⟩)
 ·exact (Heap.get?_update_other _ _ (Ne.symm hb)).trans (Heap.get?_push_of_some _ ((sl.2.1 b hn).trans q))
 ·obtain ⟨x,q'⟩:=sl.2.2 b o q
  exact ⟨x,(Heap.get?_update_other _ _ (Ne.symm hb)).trans (Heap.get?_push_of_some _ q')⟩
 ·exact Heap.get?_update_self _ (Heap.get?_push_of_some _ e1) (Obj.isFreed_of_fields (Obj.data_mapFields hd _))
 ·refine ⟨_,_,(Heap.get?_update_other _ _ (Nat.ne_of_lt (Heap.lt_size e1))).trans (Heap.get?_push_size h₁ rfl),rfl, ?_⟩
  simp only [List.size_toArray,List.length_append,List.length_cons,List.length_nil]
  omega
theorem flight_off {oT:Obj} {ts:Array Value} (he:s.heap.get? e = some oe) (hd:oe.data = .fields vs) (h1:vs[1]? = some (.ref T)) (hT:s.heap.get? T = some oT) (hdT:oT.data = .fields ts) (hz:3 < ts.size)
  (h:∀ h',(∀ b,b ≠ T→h'.get? b = s.heap.get? b)→(∃ oT ts,h'.get? T = some oT∧oT.data = .fields ts∧3 < ts.size)→Q () { s with heap:=h' }):wpAny M A (setFlight (.ref e) none) Q E s:=by
 refine wpAny_setFlight_none he hd h1 hT hdT hz (h _ (fun b hb => Heap.get?_update_other _ _ (Ne.symm hb)) ⟨_,_,Heap.get?_update_self _ hT (Obj.isFreed_of_fields (Obj.data_mapFields hdT _)),Obj.data_mapFields hdT _, ?_⟩)
 rw [Array.size_setIfInBounds]; exact hz
end
abbrev Lk {α:Type} (M:Model) (h:Heap) (t:Sem α) (r:α):Prop :=
 ∀ (A:Around) (Q:α→Shared→Prop) (E:Value→Shared→Prop) (s:Shared),(∀ b o,h.get? b = some o→s.heap.get? b = some o)→Q r s→wpAny M A t Q E s
section
variable {M:Model} {A:Around} {E:Value→Shared→Prop} {s:Shared} {env:Env}
theorem not_cls {h:Heap} {e:Addr} {oe:Obj} {vs:Array Value} (he:h.get? e = some oe) (hd:oe.data = .fields vs):Lk M h (isType (.ref e)) false:=by
 intro A Q E s k q
 show wpAny M A (do return match (← loadHead e).data with | .cls _ => true | _ => false) Q E s
 refine wpAny_bind (wpAny_loadPart (k _ _ he) ?_)
 rw [hd]; exact wpAny_pure q
theorem type_at {h:Heap} {e:Addr} {oe:Obj} {c:Value} (he:h.get? e = some oe) (hc:oe.cls = c):Lk M h (typeOf (.ref e)) c:=by
 intro A Q E s k q
 show wpAny M A (do return (← loadPart e (some headPart)).cls) Q E s
 refine wpAny_bind (wpAny_loadPart (k _ _ he) ?_)
 rw [hc]; exact wpAny_pure q
theorem raise_at {x:Sem Value} {Q:Flow→Shared→Prop} (hh:A.handled = none)
  (h:wpAny M A x (fun v s₁ => ∃ e C oe vs,v = .ref e∧s₁.heap.get? e = some oe∧oe.cls = .ref C∧oe.data = .fields vs∧vs[1]? = some .none ∧
   Lk M s₁.heap (isSubtype (.ref C) (.type "BaseException")) true∧Lk M s₁.heap (typeOf (.ref C)) (.type "type")∧E (.ref e) s₁) E s) :
  wpAny M A (raiseStmt env (some x) none) Q E s:=by
 unfold raiseStmt
 refine wpAny_bind (wpAny_mono h (fun v s₁ h₁ => ?_) fun _ _ y => y)
 obtain ⟨e,C,oe,vs,rfl,he,hc,hd,h1,hs,ht,hE⟩:=h₁
 have n1:=not_cls (M:=M) he hd
 have n2:=type_at (M:=M) he hc
 refine wpAny_bind (wpAny_pure (wpAny_bind (wpAny_holding ?_)))
 unfold excFromValue isExcClass isInstance
 refine wpAny_bind (wpAny_bind (n1 _ _ _ _ (fun _ _ z => z) ?_))
 rw [if_neg Bool.false_ne_true]
 refine wpAny_pure ?_
 rw [if_neg Bool.false_ne_true]
 refine wpAny_bind (wpAny_bind (n2 _ _ _ _ (fun _ _ z => z) (hs _ _ _ _ (fun _ _ z => z) ?_)))
 rw [if_pos rfl]
 refine wpAny_pure ?_
 refine wpAny_bind (n1 _ _ _ _ (fun _ _ z => z) ?_)
 rw [if_neg Bool.false_ne_true]
 unfold raisedInstance
 refine wpAny_bind (wpAny_bind (n2 _ _ _ _ (fun _ _ z => z) (wpAny_bind (ht _ _ _ _ (fun _ _ z => z) ?_))))
 rw [if_pos (by decide)]
 refine wpAny_pure (wpAny_bind ?_)
 unfold setFlight
 refine wpAny_bind (wpAny_field he hd h1 ?_)
 rw [if_neg (by decide)]
 exact wpAny_pure (wpAny_raiseNew_none hh hE)
end
section
variable {M:Model} {A:Around} {E:Value→Shared→Prop} {s:Shared} {env:Env}
theorem is_cls {h:Heap} {c:Addr} {oc:Obj} {cd:ClassData} (he:h.get? c = some oc) (hd:oc.data = .cls cd):Lk M h (isType (.ref c)) true:=by
 intro A Q E s k q
 show wpAny M A (do return match (← loadHead c).data with | .cls _ => true | _ => false) Q E s
 refine wpAny_bind (wpAny_loadPart (k _ _ he) ?_)
 rw [hd]; exact wpAny_pure q
theorem matches_at {e C D:Addr} {b:Bool} {Q:Bool→Shared→Prop} (h1:Lk M s.heap (typeOf (.ref D)) (.type "type")) (h2:Lk M s.heap (isType (.ref D)) true) (h3:Lk M s.heap (isSubtype (.ref D) (.type "BaseException")) true)
  (h4:Lk M s.heap (typeOf (.ref e)) (.ref C)) (h5:Lk M s.heap (isSubtype (.ref C) (.ref D)) b) (h:Q b s):wpAny M A (excMatches (.ref e) (.ref D)) Q E s:=by
 have nt:isSubtype (.type "type") (.type "tuple") = pure false:=by rw [isSubtype_type]; kernel_rfl
 unfold excMatches isInstance
 refine wpAny_bind (wpAny_bind (h1 _ _ _ _ (fun _ _ z => z) ?_))
 rw [nt]
 refine wpAny_pure ?_
 rw [if_neg Bool.false_ne_true]
 refine wpAny_bind (wpAny_pure ?_)
 simp only [List.forIn_cons,List.forIn_nil]
 unfold isExcClass
 refine wpAny_bind (wpAny_bind (wpAny_bind (wpAny_bind (h2 _ _ _ _ (fun _ _ z => z) ?_))))
 rw [if_pos rfl]
 refine h3 _ _ _ _ (fun _ _ z => z) ?_
 simp only [Bool.not_true,Bool.false_eq_true,if_false]
 refine wpAny_pure (wpAny_pure (wpAny_bind (h4 _ _ _ _ (fun _ _ z => z) ?_)))
 refine wpAny_bind (wpAny_bind (wpAny_bind (h5 _ _ _ _ (fun _ _ z => z) ?_)))
 cases b with
 | true =>
  simp only [if_true]
  exact wpAny_pure (wpAny_pure (wpAny_pure h))
 | false =>
  simp only [Bool.false_eq_true,if_false]
  exact wpAny_pure (wpAny_pure (wpAny_pure h))
end
section
variable {prog:Program} {w:World} {A:Around} {E:Value→Shared→Prop} {s:Shared} {env:Env}
theorem handle_at {e C D:Addr} {t:Expr} {n:Str} {b₀:Stmt} {suite:List Stmt} {pos:Pos} {rest:List ExceptHandler} {Q:Flow→Shared→Prop}
  (h:wpAny (model prog w) (A.mark (some (.ref e))) (eval t env) (fun c s₁ => c = .ref D∧Lk (model prog w) s₁.heap (typeOf (.ref D)) (.type "type")∧Lk (model prog w) s₁.heap (isType (.ref D)) true ∧
   Lk (model prog w) s₁.heap (isSubtype (.ref D) (.type "BaseException")) true∧Lk (model prog w) s₁.heap (typeOf (.ref e)) (.ref C)∧Lk (model prog w) s₁.heap (isSubtype (.ref C) (.ref D)) true ∧
   wpAny (model prog w) (A.mark (some (.ref e))) (setFlight (.ref e) none) (fun _ s₂ =>
     wpAny (model prog w) (A.mark (some (.ref e))) (storeName env n (.ref e)) (fun _ s₃ =>
      wpAny (model prog w) (A.mark (some (.ref e))) (execs (b₀ :: suite) env)
       (fun f s₄ => wpAny (model prog w) A (do bindName env n .none; unbindBehindTheSuite env n pos) (fun _ s₅ => Q f s₅) E s₄)
       (fun _ _ => False) s₃) (fun _ _ => False) s₂) (fun _ _ => False) s₁) (fun _ _ => False) s) :
  wpAny (model prog w) A (handleBy (.ref e) env (.ExceptHandler (some t) (some n) (b₀ :: suite) pos :: rest)) Q E s:=by
 refine wpAny_handleBy_cons (codeAny_handlers_test (wpAny_mono h (fun c s₁ h₁ => ?_) fun _ _ x => x.elim)) (by intro q; cases q)
 obtain ⟨rfl,x1,x2,x3,x4,x5,hk⟩:=h₁
 refine matches_at x1 x2 x3 x4 x5 ?_
 refine codeAny_handlers_suite_as (wpAny_mono hk (fun _ s₂ h₂ => wpAny_mono h₂ (fun _ s₃ h₃ => wpAny_mono h₃ (fun f s₄ h₄ => h₄) fun _ _ z => z.elim) fun _ _ z => z.elim) fun _ _ z => z.elim)
end
section
variable {prog:Program} {w:World} {A:Around} {E:Value→Shared→Prop} {h:Heap} {g:Array GenState} {d:Drawn} {t:Nat} {os:OsState}
variable {nm q:Str} {C N:Addr} {bs bm bmB:List Value} {hdct:Bool} {sn:List Str} {sub:List Value} {ab:Bool} {col:Option Bool} {dd:Option Addr} {k0 k1 k2 k3 k5:Option Value} {B newId initId:String}
abbrev tupO (rest:List Value):Obj:={ cls:=.type "tuple",data:=.seq rest.toArray }
abbrev excO (C t:Addr):Obj:={ cls:=.ref C,data:=.fields #[.ref t,.none,.none,.none,.bool false,.none] }
abbrev made (h:Heap) (C:Addr) (rest:List Value):Heap:=(h.push (tupO rest)).push (excO C h.objs.size)
theorem made_keep {rest:List Value}:∀ b o,h.get? b = some o→(made h C rest).get? b = some o:=fun _ _ e => Heap.get?_push_of_some _ (Heap.get?_push_of_some _ e)
theorem made_at {rest:List Value}:(made h C rest).get? (h.objs.size + 1) = some (excO C h.objs.size):=by
 have:=Heap.get?_push_size (h.push (tupO rest)) (o:=excO C h.objs.size) rfl
 rwa [Heap.size_push] at this
theorem exc_new (F:ExcBaseFacts B newId initId bmB) (T:OwnTail h bmB bm) {rest:List Value} {fI:Addr} {Q:Fin→Shared→Prop}
  (hC:h.get? C = some (excClassObj nm q C N bs bm hdct sn sub ab col dd k0 k1 k2 k3 k5 newId)) (hI:Lk (model prog w) h (typeLookup (.ref C) "__init__") (some (.ref fI)))
  (hf:Lk (model prog w) h (typeOf (.ref fI)) (.type "function")) (hrest:rest.length ≤ sizeLine)
  (hq:wpAny (model prog w) A (call (.ref fI) (.ref (h.objs.size + 1) :: rest)) (fun r s' => r = .none∧Q (.done (.ret (.ref (h.objs.size + 1)))) s') E ⟨made h C rest,g,d,t,os⟩) :
  wpAny (model prog w) A (Builtin.«type.__call__» ⟨.ref C :: rest,[]⟩) Q E ⟨h,g,d,t,os⟩:=by
 have c1:=made_keep (C:=C) (rest:=rest) _ _ hC
 have cC:(Value.ref C :: bm).contains (.ref C) = true:=by simp
 repeat (first | with_reducible refine wpAny_madeBy_exc hC ?_ | with_reducible refine wpAny_loadPart_at hC ?_ | wp_step)
 refine codeAny_call_builtin_code (Code.quiet_builtin _ F.quiet) (wpAny_check_new_subT F T hC (codeAny_exc_new_subT F T hC ?_ hrest))
 show wpAny _ _ _ _ _ _
 unfold isInstance
 have e1:=made_at (h:=h) (C:=C) (rest:=rest)
 repeat (first | (with_reducible refine wpAny_isSubtype_exc c1 ?_; rw [cC]) | with_reducible refine wpAny_loadPart_at e1 ?_ | wp_step)
 show wpAny _ _ (typeLookup (.ref C) _) _ _ _
 refine hI _ _ _ _ made_keep (wpAny_holding (wpAny_bind ?_))
 unfold bindSpecial
 refine wpAny_bind (hf _ _ _ _ made_keep ?_)
 rw [if_pos (by decide)]
 refine wpAny_pure (wpAny_bind (wpAny_mono hq (fun r s' ⟨hr,hQ⟩ => ?_) fun _ _ y => y))
 subst hr
 wp_walk
 exact hQ
end
section
variable {prog:Program} {w:World} {A:Around} {E:Value→Shared→Prop} {h:Heap} {g:Array GenState} {d:Drawn} {t:Nat} {os:OsState}
variable {nm q:Str} {C N:Addr} {bs bm bmB:List Value} {hdct:Bool} {sn:List Str} {sub:List Value} {ab:Bool} {col:Option Bool} {dd:Option Addr} {k0 k1 k2 k3 k5:Option Value} {B newId initId:String}
theorem exc_call (F:ExcBaseFacts B newId initId bmB) (T:OwnTail h bmB bm) {rest:List Value} {fI:Addr} {Q:Value→Shared→Prop}
  (hC:h.get? C = some (excClassObj nm q C N bs bm hdct sn sub ab col dd k0 k1 k2 k3 k5 newId)) (hI:Lk (model prog w) h (typeLookup (.ref C) "__init__") (some (.ref fI)))
  (hf:Lk (model prog w) h (typeOf (.ref fI)) (.type "function")) (hrest:rest.length ≤ sizeLine)
  (hq:wpAny (model prog w) (A.under (.builtin "type.__call__" ⟨.ref C :: rest,[]⟩)) (call (.ref fI) (.ref (h.objs.size + 1) :: rest)) (fun r s' => r = .none∧Q (.ref (h.objs.size + 1)) s') E ⟨made h C rest,g,d,t,os⟩) :
  wpAny (model prog w) A (call (.ref C) rest) Q E ⟨h,g,d,t,os⟩:=by
 have f2:=tc_bind (.ref C)
 have f1:=tc_lookup
 have ty:(⟨h,g,d,t,os⟩:Shared).TypeIs (.ref C) "type" := ⟨_,hC,rfl⟩
 refine wpAny_call (codeAny_of_tree ?_)
 show wpAny _ _ (callAny (.ref C) _) _ _ _
 repeat (any_goals (first | with_reducible refine wpAny_loadPart_at hC ?_ | assumption | wp_step))
 refine ⟨rfl,codeAny_call_builtin_at (Code.quiet_builtin _ (by decide +kernel)) entry_typeCall (wpAny_check_type_call_sub hC (exc_new F T hC hI hf hrest hq))⟩
end
end EX
namespace EX
open PySem Builtin Builtin.ObjectAttr
structure SetOk (M:Model) (h:Heap) (x C:Addr) (name:Str):Prop where
 sa:Lk M h (typeLookup (.ref C) "__setattr__") (some (.builtin "object.__setattr__"))
 no:Lk M h (typeLookup (.ref C) name) none
 rf:Lk M h (refuseIfOverridden (.ref x) "__setattr__") ()
 ob:Lk M h (isSubtype (.ref C) (.type "object")) true
 cd:∃ cd,Lk M h (classData C) cd∧cd.hasDict = true
structure SaFacts:Prop where
 slot:Slot "object" "__setattr__" "object.__setattr__"
 entry:entryFor table "object.__setattr__" = some Builtin.«object.__setattr__»
 kind:builtinKind "object.__setattr__" = some .slot
 split:splitId "object.__setattr__" = some ("object","__setattr__")
 args:∀ a b c:Value,argsOk "object.__setattr__" ⟨[a,b,c],[]⟩
section
variable {prog:Program} {w:World} {A:Around} {E:Value→Shared→Prop} {s:Shared} {x C:Addr} {o:Obj} {name:Str} {v:Value}
theorem slot_check {M:Model} {i owner n:String} {self:Value} {rest:List Value} {Q:Unit→Shared→Prop} (hk:builtinKind i = some .slot) (hs:splitId i = some (owner,n))
  (hi:Lk M s.heap (isInstance self (.type owner)) true) (ha:argsOk i ⟨self :: rest,[]⟩) (z:Q () s):wpAny M A (checkBuiltinCall i ⟨self :: rest,[]⟩) Q E s:=by
 simp only [checkBuiltinCall,hk,hs]
 refine wpAny_bind (hi _ _ _ _ (fun _ _ y => y) ?_)
 rw [if_neg (by decide)]
 cases g:Manifest.signature? i with
 | none => exact wpAny_pure z
 | some sig =>
  have e:Bind.checkArgs i sig ⟨self :: rest,[]⟩ = pure ():=by unfold argsOk at ha; rw [g] at ha; exact ha
  exact (show wpAny M A (Bind.checkArgs i sig ⟨self :: rest,[]⟩) Q E s by rw [e]; exact wpAny_pure z)
theorem inst_lk {M:Model} {h:Heap} {b:Value} {r:Bool} (hx:h.get? x = some o) (hc:o.cls = .ref C) (hb:Lk M h (isSubtype (.ref C) b) r):Lk M h (isInstance (.ref x) b) r:=by
 intro A Q E s k q
 unfold isInstance
 exact wpAny_bind (type_at hx hc _ _ _ _ k (hb _ _ _ _ k q))
theorem osa_as (self v:Value) (name:Str) (tk:Tok):Builtin.«object.__setattr__» ⟨[self,.str name tk,v],[]⟩ = (refuseIfOverridden self "__setattr__" >>= fun _ => typeOf self >>= fun c => typeLookup c name >>= fun a =>
  storeTaker? a >>= fun y => match y with | some y => setByDescriptor y self v | none => storeInOwnDict self c (.str name tk) name v a.isSome):=by kernel_rfl
theorem set_upto (SF:SaFacts) {Q:Unit→Shared→Prop} (S:SetOk (model prog w) s.heap x C name) (hx:s.heap.get? x = some o) (hc:o.cls = .ref C)
  (h:∀ (A:Around) (R:Fin→Shared→Prop) (E':Value→Shared→Prop) (b:Bool) (tk:Tok),(∀ s',Q () s'→R (.done (.ret .none)) s') →
   wpAny (model prog w) A (storeInOwnDict (.ref x) (.ref C) (.str name tk) name v b) R E' { s with toks:=s.toks + 1 }) :
  wpAny (model prog w) A (setAttr (.ref x) name v) Q E s:=by
 have ty:=type_at (M:=model prog w) hx hc
 have same:∀ b o,s.heap.get? b = some o→({ s with toks:=s.toks + 1 }:Shared).heap.get? b = some o:=fun _ _ e => e
 unfold setAttr callSpecial? specialOf
 refine wpAny_bind (wpAny_mkText (wpAny_bind (wpAny_bind (wpAny_bind (ty _ _ _ _ same (S.sa _ _ _ _ same (wpAny_holding ?_)))))))
 rw [SF.slot.bind]
 refine wpAny_bind (wpAny_pure (wpAny_bind (wpAny_call ?_)))
 refine codeAny_call_builtin SF.slot.plain SF.entry ?_
 have ag:=SF.args (.ref x) (.str name s.toks) v
 have ii:=inst_lk (M:=model prog w) hx hc S.ob
 refine @slot_check _ _ { s with toks:=s.toks + 1 } (model prog w) "object.__setattr__" "object" "__setattr__" (.ref x) [.str name s.toks,v] _ SF.kind SF.split ii ag ?_
 rw [show ([Value.ref x] ++ [Value.str name s.toks,v]) = [.ref x,.str name s.toks,v] from rfl,osa_as]
 refine wpAny_bind (S.rf _ _ _ _ same (wpAny_bind (ty _ _ _ _ same (wpAny_bind (S.no _ _ _ _ same (wpAny_bind (wpAny_pure ?_)))))))
 exact h _ _ _ _ _ fun s' z => wpAny_pure (wpAny_pure z)
abbrev newD:Obj:={ cls:=.type "dict",data:=.dict #[] }
theorem set_first (SF:SaFacts) {Q:Unit→Shared→Prop} {vs:Array Value} (S:SetOk (model prog w) s.heap x C name) (hx:s.heap.get? x = some o) (hc:o.cls = .ref C) (hd:o.dict = none) (hv:o.data = .fields vs)
  (h:∀ h' tk,(∀ b u,b ≠ x→s.heap.get? b = some u→h'.get? b = some u)→h'.get? x = some { o with dict:=some s.heap.objs.size }→h'.Ns1 s.heap.objs.size (fun y => if y = name then some v else none) →
   Q () { s with heap:=h',toks:=tk }):wpAny (model prog w) A (setAttr (.ref x) name v) Q E s:=by
 refine set_upto SF S hx hc fun A R E' b tk hR => ?_
 obtain ⟨cd,hcd,hh⟩:=S.cd
 have same:∀ b o,s.heap.get? b = some o→({ s with toks:=s.toks + 1 }:Shared).heap.get? b = some o:=fun _ _ e => e
 obtain ⟨oc,od,dt,sl⟩:=o
 obtain rfl:oc = .ref C:=hc
 obtain rfl:od = none:=hd
 obtain rfl:dt = .fields vs:=hv
 have nx:s.heap.objs.size ≠ x:=Nat.ne_of_gt (Heap.lt_size hx)
 unfold storeInOwnDict ownDictForStores instanceDict
 refine wpAny_bind (wpAny_pure (wpAny_bind (wpAny_bind (wpAny_loadPart (same _ _ hx) (wpAny_bind (hcd _ _ _ _ same ?_))))))
 rw [hh]
 refine wpAny_bind (wpAny_alloc (wpAny_bind (wpAny_update (Heap.get?_push_of_some _ hx) (wpAny_pure ?_))))
 have e1:=Heap.get?_push_of_some newD hx
 have e2:((s.heap.push newD).update x fun o => { o with dict:=some s.heap.objs.size }).get? x = some ⟨.ref C,some s.heap.objs.size,.fields vs,sl⟩:=Heap.get?_update_self _ e1 rfl
 have e3:((s.heap.push newD).update x fun o => { o with dict:=some s.heap.objs.size }).get? s.heap.objs.size = some newD:=(Heap.get?_update_other _ _ (Ne.symm nx)).trans (Heap.get?_push_size _ rfl)
 have ns:((s.heap.push newD).update x fun o => { o with dict:=some s.heap.objs.size }).Ns s.heap.objs.size (fun _ => none):=⟨newD, #[],_,e3,rfl,(fun e he => absurd he (by simp)),fun _ => rfl⟩
 show wpAny _ _ (storeInDict s.heap.objs.size (.str name tk) name v) _ _ _
 unfold storeInDict newKeyGuard
 refine wpAny_bind (wpAny_pure (wpAny_bind (wpAny_nsSet1 (Heap.Ns1.of_empty ns) fun h' hn' hs => ?_)))
 obtain ⟨oD,esD,epD,hoD,hdD,hcD⟩:=hn'.count (Within.cons name v Within.nil)
 refine wpAny_bind (wpAny_lookBehind hoD ?_ (wpAny_pure (hR _ (h h' _ (fun b u hb q => ?_) ((hs.2 x (Ne.symm nx)).trans e2) hn'))))
 ·rw [hdD]; exact pastItsLine_dict (Nat.le_trans hcD (by rw [sizeLine_eq,List.length_cons,List.length_nil]; omega))
 ·exact (hs.2 b (Nat.ne_of_lt (Heap.lt_size q))).trans ((Heap.get?_update_other _ _ (Ne.symm hb)).trans (Heap.get?_push_of_some _ q))
theorem set_next (SF:SaFacts) {Q:Unit→Shared→Prop} {dx:Addr} {mA:Str→Option Value} {ns:List Str} (S:SetOk (model prog w) s.heap x C name) (hx:s.heap.get? x = some o) (hc:o.cls = .ref C) (hd:o.dict = some dx)
  (hn:s.heap.Ns1 dx mA) (hw:Within mA ns) (hz:ns.length < 1000)
  (h:∀ h' tk,Heap.SameBut dx s.heap h'→h'.Ns1 dx (fun y => if y = name then some v else mA y)→Q () { s with heap:=h',toks:=tk }):wpAny (model prog w) A (setAttr (.ref x) name v) Q E s:=by
 refine set_upto SF S hx hc fun A R E' b tk hR => ?_
 obtain ⟨cd,hcd,hh⟩:=S.cd
 have same:∀ b o,s.heap.get? b = some o→({ s with toks:=s.toks + 1 }:Shared).heap.get? b = some o:=fun _ _ e => e
 obtain ⟨oc,od,dt,sl⟩:=o
 obtain rfl:oc = .ref C:=hc
 obtain rfl:od = some dx:=hd
 unfold storeInOwnDict ownDictForStores instanceDict
 refine wpAny_bind (wpAny_pure (wpAny_bind (wpAny_bind (wpAny_loadPart (same _ _ hx) (wpAny_bind (hcd _ _ _ _ same ?_))))))
 rw [hh]
 refine wpAny_pure (a:=some dx) ?_
 show wpAny _ _ (storeInDict dx (.str name tk) name v) _ _ _
 unfold storeInDict newKeyGuard
 refine wpAny_bind (wpAny_pure (wpAny_bind (wpAny_nsSet1 (s:={ s with toks:=s.toks + 1 }) hn fun h' hn' hs => ?_)))
 obtain ⟨oD,esD,epD,hoD,hdD,hcD⟩:=hn'.count (Within.cons name v hw)
 refine wpAny_bind (wpAny_lookBehind hoD ?_ (wpAny_pure (hR _ (h h' _ hs hn'))))
 rw [hdD]; exact pastItsLine_dict (Nat.le_trans hcD (by rw [sizeLine_eq,List.length_cons]; omega))
end
structure GetOk (M:Model) (h:Heap) (C:Addr) (name:Str):Prop where
 ga:Lk M h (typeLookup (.ref C) "__getattribute__") (some (.builtin "BaseException.__getattribute__"))
 hk:Lk M h (typeLookup (.ref C) "__getattr__") none
 no:Lk M h (typeLookup (.ref C) name) none
 ob:Lk M h (isSubtype (.ref C) (.type "BaseException")) true
 cd:∃ cd,Lk M h (classData C) cd∧cd.hasDict = true
theorem oga_as (self:Value) (name:Str) (tk:Tok):∃ miss:Value→Sem Fin,Builtin.«object.__getattribute__» ⟨[self,.str name tk],[]⟩ = (typeOf self >>= fun tp => find self tp name >>= fun f =>
  match f with | .value v => ret v | .bind g a => bindTo g a self tp | .missing => miss tp):=⟨_,rfl⟩
section
variable {prog:Program} {w:World} {A:Around} {E:Value→Shared→Prop} {s:Shared} {x C dx:Addr} {o:Obj} {name:Str} {v:Value} {mA:Str→Option Value} {vs:Array Value}
theorem ga_slot:Slot "ValueError" "__getattribute__" "BaseException.__getattribute__" := PySem.F.excAttr_ValueError.ga
theorem get_at {expr:Bool} {Q:Value→Shared→Prop} (G:GetOk (model prog w) s.heap C name) (hx:s.heap.get? x = some o) (hc:o.cls = .ref C) (hd:o.dict = some dx) (hv:o.data = .fields vs) (hn:s.heap.Ns dx mA)
  (hm:mA name = some v) (ho:∀ i,v ≠ .builtin i) (h:Q v { s with toks:=s.toks + 1 }):wpAny (model prog w) A (getAttr (.ref x) name expr) Q E s:=by
 obtain ⟨cd,hcd,hh⟩:=G.cd
 obtain ⟨oc,od,dt,sl⟩:=o
 obtain rfl:oc = .ref C:=hc
 obtain rfl:od = some dx:=hd
 obtain rfl:dt = .fields vs:=hv
 have ty:=type_at (M:=model prog w) hx rfl
 have same:∀ b o,s.heap.get? b = some o→({ s with toks:=s.toks + 1 }:Shared).heap.get? b = some o:=fun _ _ e => e
 have hand:handedOut v = pure v:=by
  cases v <;> first | rfl | exact absurd rfl (ho _)
 unfold getAttr getAttrBy
 refine wpAny_bind (wpAny_mkText (wpAny_holding (wpAny_bind (ty _ _ _ _ same (wpAny_bind (G.ga _ _ _ _ same ?_))))))
 have e0:(onTheHeap (Value.ref C) && Value.builtin "BaseException.__getattribute__" == Value.builtin "object.__getattribute__") = false:=by
  rw [show (Value.builtin "BaseException.__getattribute__" == Value.builtin "object.__getattribute__") = false by decide +kernel,Bool.and_false]
 show wpAny _ _ (if (onTheHeap (Value.ref C) && Value.builtin "BaseException.__getattribute__" == Value.builtin "object.__getattribute__") = true then _ else _) _ _ _
 rw [e0,if_neg Bool.false_ne_true]
 unfold getAttrByItsOwn hookBefore
 refine wpAny_bind (G.hk _ _ _ _ same (wpAny_bind (wpAny_attempt (wpAny_holding ?_))))
 unfold callGetattribute boundAndCalled
 have e1:(expr && onTheHeap (Value.builtin "BaseException.__getattribute__")) = false:=by cases expr <;> rfl
 rw [e1,if_neg Bool.false_ne_true,ga_slot.bind]
 refine wpAny_bind (wpAny_pure (wpAny_call ?_))
 refine codeAny_call_builtin ga_slot.plain PySem.F.entry_bexc_ga ?_
 have ag:=PySem.F.args_bexc_ga (.ref x) (.str name s.toks)
 have ii:=inst_lk (M:=model prog w) hx rfl G.ob
 refine @slot_check _ _ { s with toks:=s.toks + 1 } (model prog w) "BaseException.__getattribute__" "BaseException" "__getattribute__" (.ref x) [.str name s.toks] _ (by decide +kernel) (by decide +kernel) ii ag ?_
 obtain ⟨miss,em⟩:=oga_as (.ref x) name s.toks
 rw [show ([Value.ref x] ++ [Value.str name s.toks]) = [.ref x,.str name s.toks] from rfl,em]
 refine wpAny_bind (ty _ _ _ _ same (wpAny_bind ?_))
 unfold find
 refine wpAny_bind (G.no _ _ _ _ same (wpAny_bind (wpAny_pure (wpAny_bind (wpAny_pure ?_)))))
 unfold ownThenClass inOwnDict ownDict instanceDict
 refine wpAny_bind (wpAny_bind (wpAny_bind (wpAny_loadPart (same _ _ hx) (wpAny_bind (wpAny_loadPart (same _ _ hx) (wpAny_bind (hcd _ _ _ _ same ?_)))))))
 rw [hh]
 refine wpAny_pure (a:=some dx) ?_
 refine wpAny_nsGet (s:={ s with toks:=s.toks + 1 }) hn ?_
 rw [hm]
 refine wpAny_bind (wpAny_rule (wpAny_pure (wpAny_pure ?_)))
 show wpAny _ _ (handedOut v) _ _ _
 rw [hand]
 exact wpAny_pure h
end
end EX
namespace EX
open PySem
section
variable {prog:Program} {w:World} {A:Around} {E:Value→Shared→Prop} {h:Heap} {g:Array GenState} {d:Drawn} {t:Nat} {os:OsState}
variable {nm q:Str} {C N:Addr} {bs bm bmB:List Value} {hdct:Bool} {sn:List Str} {sub:List Value} {ab:Bool} {col:Option Bool} {dd:Option Addr} {k0 k1 k2 k3 k5:Option Value} {B newId initId:String}
end
end EX
namespace EX
open PySem PySem.W Builtin Builtin.ObjectAttr
section
variable {prog:Program} {w:World} {A:Around} {E:Value→Shared→Prop} {s:Shared} {x C:Addr} {o:Obj} {od:Option Obj} {K:Frag}
theorem find_class (hc:(clsIn K C).isSome = true) (ha:findIn K (.ref C) "__class__" = some (some (.builtin "object.__class__"))) (hg:specialIn K (.builtin "object.__class__") "__get__" = some (some (.builtin "getset_descriptor.__get__")))
  (ht:takesIn K (.builtin "object.__class__") = some true):findObj K C od "__class__" = some (.bind (.builtin "getset_descriptor.__get__") (.builtin "object.__class__")):=by
 obtain ⟨cd,hc⟩:=Option.isSome_iff_exists.mp hc
 unfold findObj
 rw [hc,ha]
 simp only [Option.bind_some,hg,ht]
theorem class_at {Q:Option Value→Shared→Prop} (X:K.In s.heap) (I:InstAt s.heap x o C od) (ga:findIn K (.ref C) "__getattribute__" = some (some (.builtin "BaseException.__getattribute__"))) (hk:findIn K (.ref C) "__getattr__" = some none)
  (be:mroIn K C (.type "BaseException") = some true) (ob:mroIn K C (.type "object") = some true) (hf:findObj K C od "__class__" = some (.bind (.builtin "getset_descriptor.__get__") (.builtin "object.__class__")))
  (h:Q (some (.ref C)) { s with toks:=s.toks + 1 }):wpAny (model prog w) A (getAttr? (.ref x) "__class__") Q E s:=by
 have ty:=I.type (M:=model prog w)
 have same:∀ b o,s.heap.get? b = some o→({ s with toks:=s.toks + 1 }:Shared).heap.get? b = some o:=fun _ _ e => e
 unfold getAttr? getAttrBy? getAttrBy
 refine wpAny_bind (wpAny_mkText (wpAny_bind (wpAny_attempt (wpAny_holding (wpAny_bind (ty _ _ _ _ same (wpAny_bind (looks_findIn X ga _ _ _ _ same ?_))))))))
 have e0:(onTheHeap (Value.ref C) && Value.builtin "BaseException.__getattribute__" == Value.builtin "object.__getattribute__") = false:=by
  rw [show (Value.builtin "BaseException.__getattribute__" == Value.builtin "object.__getattribute__") = false by decide +kernel,Bool.and_false]
 show wpAny _ _ (if (onTheHeap (Value.ref C) && Value.builtin "BaseException.__getattribute__" == Value.builtin "object.__getattribute__") = true then _ else _) _ _ _
 rw [e0,if_neg Bool.false_ne_true]
 unfold getAttrByItsOwn hookBefore
 refine wpAny_bind (looks_findIn X hk _ _ _ _ same (wpAny_bind (wpAny_attempt (wpAny_holding ?_))))
 unfold callGetattribute boundAndCalled
 rw [Bool.false_and,if_neg Bool.false_ne_true,ga_slot.bind]
 refine wpAny_bind (wpAny_pure (wpAny_call ?_))
 refine codeAny_call_builtin ga_slot.plain PySem.F.entry_bexc_ga ?_
 have ag:=PySem.F.args_bexc_ga (.ref x) (.str "__class__" s.toks)
 have ii:=inst_lk (M:=model prog w) I.at_ I.cls (looks_mroIn X be)
 refine @slot_check _ _ { s with toks:=s.toks + 1 } (model prog w) "BaseException.__getattribute__" "BaseException" "__getattribute__" (.ref x) [.str "__class__" s.toks] _ (by decide +kernel) (by decide +kernel) ii ag ?_
 obtain ⟨miss,em⟩:=oga_as (.ref x) "__class__" s.toks
 rw [show ([Value.ref x] ++ [Value.str "__class__" s.toks]) = [.ref x,.str "__class__" s.toks] from rfl,em]
 refine wpAny_bind (ty _ _ _ _ same (wpAny_bind (looks_find X I hf _ _ _ _ same ?_)))
 show wpAny _ _ (holding [Value.builtin "object.__class__"] (call (.builtin "getset_descriptor.__get__") [.builtin "object.__class__",.ref x,.ref C]) >>= ret) _ _ _
 refine wpAny_bind (wpAny_holding (wpAny_call (class_get (s:={ s with toks:=s.toks + 1 }) (ox:=o) (od:=od) X I ob ?_)))
 exact wpAny_pure (wpAny_pure (wpAny_pure h))
end
end EX
namespace L2
open PySem PySem.Spec PyProof.Rows
def XO (a C:Addr) (od:Option Addr) (new:Bool) (h:Heap):Prop:=∃ vs sl,h.get? a = some ⟨.ref C,od,.fields vs,sl⟩∧1 < vs.size∧(new = true→vs[1]? = some .none)
abbrev XHO (a C:Addr) (od:Option Addr) (new:Bool):HO:=.ext (XO a C od new)
def DO (a:Addr) (fs:List (Str × V)) (h:Heap):Prop:=fs.length ≤ 100∧∃ mA,h.Ns1 a mA∧(∀ f,RelO (fs.lookup f) (mA f))∧PySem.Within mA (fs.map (·.1))
abbrev DHO (a:Addr) (fs:List (Str × V)):HO:=.ext (DO a fs)
section
variable {P:Program} {w:World} {H:Hp} {h:Heap} {a C:Addr} {od:Option Addr} {new:Bool} {fs:List (Str × V)}
theorem XO.ok (x:XO a C od new h):Y0 P w H h a (XHO a C od new):=by
 obtain ⟨vs,sl,e,z⟩:=x
 exact ⟨⟨vs,sl,e,z⟩,⟨_,e⟩,fun h1 h2 ⟨vs,sl,e,z⟩ k => ⟨vs,sl,k _ e,z⟩⟩
theorem DO.ok (x:DO a fs h):Y0 P w H h a (DHO a fs):=by
 obtain ⟨z,mA,⟨o,es,ep,e,r⟩,q⟩:=x
 exact ⟨⟨z,mA,⟨o,es,ep,e,r⟩,q⟩,⟨o,e⟩,fun h1 h2 ⟨z,mA,⟨o,es,ep,e,r⟩,q⟩ k => ⟨z,mA,⟨o,es,ep,k _ e,r⟩,q⟩⟩
theorem HOk.xo (x:HOk P w H h) (e:H a = some (XHO a C od new)):XO a C od new h:=(x a _ e).1
theorem HOk.do_ (x:HOk P w H h) (e:H a = some (DHO a fs)):DO a fs h:=(x a _ e).1
end
def veMro:List Value:=[.type "ValueError",.type "Exception",.type "BaseException",.type "object"]
def onlyVE:List Value→Bool
 | .ref _ :: r => onlyVE r
 | l => l == veMro
theorem refuse_ve (self:Value):∀ {l:List Value},onlyVE l = true→refuseLoop self "__setattr__" l = pure ()
 | [],e => by cases e
 | v :: r,e => by
  cases v with
  | ref c => rw [refuseLoop_ref]; exact refuse_ve self (l:=r) e
  | type n => rw [show (Value.type n :: r) = veMro from beq_iff_eq.mp e]; exact PySem.F.store_ValueError.passes self
  | _ => cases (show _ = veMro from beq_iff_eq.mp e)
structure XCls (K:PySem.W.Frag) (C:Addr):Prop where
 sa:PySem.W.findIn K (.ref C) "__setattr__" = some (some (.builtin "object.__setattr__"))
 ga:PySem.W.findIn K (.ref C) "__getattribute__" = some (some (.builtin "BaseException.__getattribute__"))
 hk:PySem.W.findIn K (.ref C) "__getattr__" = some none
 ca:PySem.W.findIn K (.ref C) "__class__" = some (some (.builtin "object.__class__"))
 be:PySem.W.mroIn K C (.type "BaseException") = some true
 ob:PySem.W.mroIn K C (.type "object") = some true
 hd:PySem.W.hasDictIn K C = true
 ty:PySem.W.typeIn K (.ref C) = some (.type "type")
 rf:((PySem.W.clsIn K C).any fun cd => onlyVE cd.mro) = true
 gs:PySem.W.specialIn K (.builtin "object.__class__") "__get__" = some (some (.builtin "getset_descriptor.__get__"))
 tk:PySem.W.takesIn K (.builtin "object.__class__") = some true
theorem sa_facts:EX.SaFacts:=⟨PySem.F.store_object.slot,PySem.F.store_object.entry,PySem.F.store_object.kind,PySem.F.store_object.split,PySem.F.store_object.args⟩
section
variable {K:PySem.W.Frag} {C x:Addr} {M:Model} {h:Heap} {f:Str} {o:Obj}
theorem XCls.setOk (c:XCls K C) (X:K.In h) (n:NoAttr K C f) (hx:h.get? x = some o) (hc:o.cls = .ref C):EX.SetOk M h x C f:=by
 refine ⟨PySem.W.looks_findIn X c.sa,PySem.W.looks_findIn X n, ?_,PySem.W.looks_mroIn X c.ob, ?_⟩
 ·obtain ⟨cd,hc',e⟩:=PySem.W.any_some c.rf
  have hm:PySem.W.Looks M h (mroOf (.ref C)) cd.mro:=(PySem.W.looks_clsIn X hc').andThen .now
  intro A Q E s k q
  rw [refuse_eq]
  refine wpAny_bind (EX.type_at hx hc _ _ _ _ k (wpAny_bind (hm _ _ _ _ k ?_)))
  rw [refuse_ve _ e]
  exact wpAny_pure q
 ·obtain ⟨cd,hc',e⟩:=PySem.W.any_some c.hd
  exact ⟨cd,PySem.W.looks_clsIn X hc',e⟩
theorem XCls.getOk (c:XCls K C) (X:K.In h) (n:NoAttr K C f):EX.GetOk M h C f:=by
 obtain ⟨cd,hc',e⟩:=PySem.W.any_some c.hd
 exact ⟨PySem.W.looks_findIn X c.ga,PySem.W.looks_findIn X c.hk,PySem.W.looks_findIn X n,PySem.W.looks_mroIn X c.be,cd,PySem.W.looks_clsIn X hc',e⟩
end
section
variable {X:Cx} {pins:List (Addr × Obj)} {σ:St} {H:Hp} {s:Shared} {h':Heap} {t':Nat}
theorem ext_ne {a b:Addr} {φ:Heap→Prop} {u:HO} (e:H a = some (.ext φ)) (q:H b = some u) (hu:∀ ψ,u ≠ .ext ψ):b ≠ a:=fun z => by
 subst z; rw [q] at e; exact hu _ (Option.some.inj e)
theorem Zn.wr2 {a d:Addr} {o u:HO} {φ:Heap→Prop} (I:Zn X pins σ H s) (ea:H a = some (.ext φ)) (hd:s.heap.objs.size ≤ d) (k:∀ b v,b ≠ a→s.heap.get? b = some v→h'.get? b = some v)
  (na:Y0 X.prog X.w (Zo (Zo H d u) a o) h' a o) (nd:Y0 X.prog X.w (Zo (Zo H d u) a o) h' d u) (hh:∃ v,h'.get? a = some v):Zn X pins σ (Zo (Zo H d u) a o) { s with heap:=h',toks:=t' }:=by
 have hfd:H d = none:=I.hok.fresh hd
 have nda:d ≠ a:=fun z => by rw [z,ea] at hfd; cases hfd
 have at_:∀ {b:Addr},b ≠ a→b ≠ d→Zo (Zo H d u) a o b = H b:=fun h1 h2 => by rw [Zt h1,Zt h2]
 have nd_:∀ {b:Addr} {v:HO},H b = some v→b ≠ d:=fun q z => by rw [z,hfd] at q; cases q
 have na_:∀ {b:Addr},H b = none→b ≠ a:=fun q z => by rw [z,ea] at q; cases q
 refine I.un ⟨fun b v q n _ _ => k b v (na_ n) q,fun b v q n _ _ => ⟨v.slots,k b v (na_ n) q⟩,fun b v q n _ => ?_,fun b v q _ => ?_,fun b xs q => ?_,fun b v xs q => ?_,fun b ps q => ⟨#[], ?_⟩⟩ fun b v q => ?_
 ·rw [at_ (na_ n) (Nat.ne_of_lt (Nat.lt_of_lt_of_le (Heap.lt_size q) hd))]; exact n
 ·by_cases z:b = a
  ·rw [z]; exact hh
  ·exact ⟨v,k b v z q⟩
 ·rw [at_ (ext_ne ea q fun _ z => nomatch z) (nd_ q)]; exact q
 ·rw [at_ (ext_ne ea q fun _ z => nomatch z) (nd_ q)]; exact q
 ·rw [at_ (ext_ne ea q fun _ z => nomatch z) (nd_ q),q]; simp
 ·by_cases z:b = a
  ·subst z; rw [Zq] at q; cases q; exact na
  ·by_cases z2:b = d
   ·subst z2; rw [Zt z,Zq] at q; cases q; exact nd
   ·rw [at_ z z2] at q
    refine (I.hok b v q).stay (fun c w' hc r => k c w' ?_ r) (fun c r => ?_) fun c xs r => ?_
    ·rcases hc with hc | hc
     ·rw [hc]; exact z
     ·exact ext_ne ea hc fun _ y => nomatch y
    ·rw [at_ (ext_ne ea r fun _ y => nomatch y) (nd_ r)]; exact r
    ·rw [at_ (ext_ne ea r fun _ y => nomatch y) (nd_ r)]; exact r
end
def sFldX (K:PySem.W.Frag) (ta tv:TE) (f:Str):TS:=fun D σ H => tv σ H fun y H1 => ta σ H1 fun x H2 => ∃ a C od new,x = .ref a∧H2 a = some (XHO a C od new)∧XCls K C∧NoAttr K C f ∧
  ((od = none∧∀ d,H2 d = none→d ≠ a→D.nx σ (Zo (Zo H2 d (DHO d [(f,y)])) a (XHO a C (some d) new))) ∨
   (∃ d fs,od = some d∧H2 d = some (DHO d fs)∧fs.length < 100∧D.nx σ (Zo H2 d (DHO d (putF f y fs)))))
section
variable {X:Cx} {o e value:Expr} {f:Str} {pos pos':Pos} {ta tv:TE}
theorem ps_fldX (ha:PE X o ta) (hv:PE X value tv) (hs:swapsWith value (some (.Attribute o f pos')) pos.line X.env = pure false):PS X (.Assign [.Attribute o f pos'] value pos) (sFldX X.K ta tv f):=by
 intro pins s σ H D I h
 refine plainObj_wpAny_Assign_Attribute (Vx (hv pins s σ H _ I h) fun u s1 ⟨y,H1,I1,ry,q⟩ => Vx (ha pins s1 σ H1 _ I1 q) fun ov s2 ⟨x,H2,I2,rx,a,C,od,new,ex,ea,c,n,q2⟩ => ?_) hs
 subst ex
 obtain rfl:ov = Value.ref a:=rx
 obtain ⟨vs,sl,hx,z1,z2⟩:=I2.hok.xo ea
 have S:=c.setOk (M:=model X.prog X.w) I2.kIn n hx rfl
 rcases q2 with ⟨rfl,q2⟩ | ⟨d,fs,rfl,ed,hl,q2⟩
 ·refine EX.set_first sa_facts S hx rfl rfl rfl fun h' tk k e1 ns => ?_
  have hf:H2 s2.heap.objs.size = none:=I2.hok.fresh (Nat.le_refl _)
  have nx:s2.heap.objs.size ≠ a:=Nat.ne_of_gt (Heap.lt_size hx)
  refine ⟨σ,_,I2.wr2 (d:=s2.heap.objs.size) (u:=DHO s2.heap.objs.size [(f,y)]) (o:=XHO a C (some s2.heap.objs.size) new) ea (Nat.le_refl _) k (XO.ok ⟨vs,sl,e1,z1,z2⟩) (DO.ok ⟨by simp,_,ns,fun g => ?_,fun g hg => ?_⟩) ⟨_,e1⟩,q2 _ hf nx⟩
  ·by_cases z:g = f
   ·subst z; simp only [List.lookup,beq_self_eq_true,if_true]; exact ry
   ·simp only [List.lookup,beq_eq_false_iff_ne.mpr z,if_neg z]; trivial
  ·by_cases z:g = f
   ·subst z; simp
   ·exact absurd (show (if g = f then some u else none) = none from if_neg z) hg
 ·obtain ⟨z3,mA,ns,r,wi⟩:=I2.hok.do_ ed
  refine EX.set_next sa_facts S hx rfl rfl ns wi (by rw [List.length_map]; omega) fun h' tk sb ns' => ⟨σ,_, ?_,q2⟩
  have hd:∃ u,h'.get? d = some u:=let ⟨o,_,_,e',_⟩:=ns'; ⟨o,e'⟩
  refine I2.write (x:=d) (e:=d) (by rw [ed]; exact True.intro) (.inl rfl) (fun b v hb z => (sb.2 b hb).trans z) hd (DO.ok ⟨?_,_,ns',fun g => ?_,fun g hg => ?_⟩)
  ·have:=length_putF f y fs; omega
  ·show RelO ((putF f y fs).lookup g) (if g = f then some u else mA g)
   rw [lookup_putF]
   by_cases z:g = f
   ·rw [if_pos z,if_pos z]; exact ry
   ·rw [if_neg z,if_neg z]; exact r g
  ·by_cases z:g = f
   ·rw [z]; exact (keys_putF f y fs).1
   ·exact (keys_putF f y fs).2 g (wi g fun z' => hg (show (if g = f then some u else mA g) = none by rw [if_neg z]; exact z'))
def tFldX (K:PySem.W.Frag) (ta:TE) (f:Str):TE:=fun σ H Q => ta σ H fun x H1 => ∃ a C d new fs v,x = .ref a∧H1 a = some (XHO a C (some d) new)∧H1 d = some (DHO d fs)∧XCls K C∧NoAttr K C f∧fs.lookup f = some v∧Q v H1
theorem relv_nb {v:V} {u:Value} (r:Z6 v u):∀ i,u ≠ .builtin i:=fun i z => by
 subst z
 cases v with
 | non => cases (show Value.builtin i = Value.none from r)
 | bl b => cases (show Value.builtin i = Value.bool b from r)
 | int n => obtain ⟨t,e⟩:=(show ∃ t,Value.builtin i = Value.int n t from r); cases e
 | str x => obtain ⟨t,e⟩:=(show ∃ t,Value.builtin i = Value.str x t from r); cases e
 | byt b => obtain ⟨t,e⟩:=(show ∃ t,Value.builtin i = Value.bytes b t from r); cases e
 | flt b => obtain ⟨t,e⟩:=(show ∃ t,Value.builtin i = Value.float b t from r); cases e
 | ref a => cases (show Value.builtin i = Value.ref a from r)
 | ty n => cases (show Value.builtin i = Value.type n from r)
theorem pe_fldX (he:PE X e ta) (hb:attributeBase e f X.env (eval e X.env) = eval e X.env):PE X (.Attribute e f pos) (tFldX X.K ta f):=by
 intro pins s σ H Q I h
 refine attr_of hb (Vx (he pins s σ H _ I h) fun u s1 ⟨x,H1,I1,rx,a,C,d,new,fs,v,ex,ea,ed,c,n,l,q⟩ => ?_)
 subst ex
 obtain rfl:u = Value.ref a:=rx
 obtain ⟨vs,sl,hx,_⟩:=I1.hok.xo ea
 obtain ⟨_,mA,ns,r,_⟩:=I1.hok.do_ ed
 obtain ⟨u',hu,ru⟩:=RelO.some_of (v:=v) (o:=mA f) (by rw [← l]; exact r f)
 exact EX.get_at (c.getOk I1.kIn n) hx rfl rfl rfl ns.ns hu (relv_nb ru) ⟨v,H1,I1.tok _,ru,q⟩
end
def xIn (K:PySem.W.Frag) (C:Addr):Bool :=
 match K.lookup C with
 | some ⟨.type "type",_,.cls cd,⟨[_,_,_,_,some (.builtin n),_]⟩⟩ => match cd.mro with
  | .ref C' :: bm => C' == C && n == "ValueError.__new__" && !cd.hasDel && PySem.W.tailIn K veMro bm
  | _ => false
 | _ => false
theorem x_cls {K:PySem.W.Frag} {h:Heap} {C:Addr} (X:K.In h) (q:xIn K C = true):∃ nm qn N bs bm hdct sn sub ab col dd k0 k1 k2 k3 k5,
  h.get? C = some (excClassObj nm qn C N bs bm hdct sn sub ab col dd k0 k1 k2 k3 k5 "ValueError.__new__")∧OwnTail h veMro bm:=by
 unfold xIn at q
 split at q
 ·rename_i dd cd k0 k1 k2 k3 n k5 ho
  split at q
  ·rename_i C' bm hm
   simp only [Bool.and_eq_true,beq_iff_eq,Bool.not_eq_true'] at q
   obtain ⟨⟨⟨rfl,rfl⟩,hdel⟩,ht⟩:=q
   obtain ⟨nm,bs,mro,ns,qn,hd,sn,sub,ab,col,del⟩:=cd
   dsimp only at hm hdel
   subst hm
   subst hdel
   exact ⟨nm,qn,ns,bs,bm,hd,sn,sub,ab,col,dd,k0,k1,k2,k3,k5,X _ _ ho,PySem.W.tail_of_in X ht⟩
  ·cases q
 ·cases q
structure XMk (K:PySem.W.Frag) (C f:Addr):Prop where
 made:xIn K C = true
 init:PySem.W.findIn K (.ref C) "__init__" = some (some (.ref f))
 fn:PySem.W.isFn K (.ref f) = true
 kp:PySem.W.keepIn K (.ref C) = true
structure XMk0 (K:PySem.W.Frag) (C:Addr):Prop where
 made:xIn K C = true
 init:PySem.W.findIn K (.ref C) "__init__" = some (some (.builtin "ValueError.__init__"))
 kp:PySem.W.keepIn K (.ref C) = true
def tMkX (C:Addr) (sp:Sp) (E:XK) (t:TA):TE:=fun σ H Q => t σ H fun vs H1 => vs.length ≤ 100∧∀ x,H1 x = none→sp (.ref x :: vs) (Zo H1 x (XHO x C none true)) (fun v H2 => v = .non∧Q (.ref x) H2) E
section
variable {X:Cx} {CX:CXT} {k:Nat} {f C:Addr} {fd:FuncData} {ps:List Str} {sp:Sp} {E:XK} {x m:Str} {p pos:Pos} {e:Expr} {es:List Expr} {t:TA}
theorem run_mkX {pins:List (Addr × Obj)} {σ:St} {H:Hp} {s:Shared} {Q:VK} {us:List Value} {vs:List V} (M:XMk X.K C f) (F:Yd X.prog X.w X.K X.mg X.base CX k f fd ps sp) (hr:Vb (k + 1) X.A) (hb:Binds X.K fd ps [])
  (hx:Passes CX X E) (I:Zn X pins σ H s) (r:Z1 vs us) (hz:vs.length ≤ 100)
  (h:∀ x,H x = none→sp (.ref x :: vs) (Zo H x (XHO x C none true)) (fun v H2 => v = .non∧Q (.ref x) H2) E) :
  wpAny (model X.prog X.w) X.A (call (.ref C) us) (EP X pins σ Q) X.xe s:=by
 obtain ⟨nm,qn,N,bs,bm,hdct,sn,sub,ab,col,dd,k0,k1,k2,k3,k5,hC,T⟩:=x_cls I.kIn M.made
 have hq:=h (s.heap.objs.size + 1) (I.hok.fresh (Nat.le_succ _))
 have I2:Zn X pins σ (Zo H (s.heap.objs.size + 1) (XHO (s.heap.objs.size + 1) C none true)) { s with heap:=EX.made s.heap C us } :=
  I.laid (a:=s.heap.objs.size + 1) (t':=s.toks) EX.made_keep (Nat.le_succ _) (XO.ok ⟨_,_,EX.made_at,by simp,fun _ => rfl⟩)
 have r2:Z1 (V.ref (s.heap.objs.size + 1) :: vs) (Value.ref (s.heap.objs.size + 1) :: us):=.cons rfl r
 have hl:(Value.ref (s.heap.objs.size + 1) :: us ++ []).length = ps.length:=by
  rw [List.append_nil, ← r2.length]; exact F.len _ _ _ _ hq
 have hu:us.length ≤ sizeLine:=by rw [← r.length]; exact Nat.le_of_lt (Y7 (by omega))
 have bb:=hb _ (Value.ref (s.heap.objs.size + 1) :: us) I2.kIn hl
 rw [List.append_nil] at bb
 obtain ⟨hh,gg,d,tk,os⟩:=s
 refine EX.exc_call PySem.F.excBase_ValueError T hC (PySem.W.looks_findIn I.kIn M.init) (PySem.W.looks_typeIn I.kIn (beq_iff_eq.mp M.fn)) hu ?_
 refine wpAny_call (codeAny_mono (F.run _ X.stack _ _ ⟨Value.ref (hh.objs.size + 1) :: us,[]⟩ _ _ _ E (hr.make C us []) (I2.env0.make C us []) bb r2 hq) fun r s' hq' => ?_)
 cases r with
 | error e => exact hx pins σ _ _ e s' I2 hq'
 | ok fl =>
  cases fl with
  | ret u =>
   obtain ⟨v,H',I3,rv,ev,q3⟩:=I2.after hq'
   subst ev
   exact ⟨rv,⟨V.ref (hh.objs.size + 1),H',I3,rfl,q3⟩⟩
  | next => exact False.elim hq'
  | brk => exact False.elim hq'
  | cont => exact False.elim hq'
theorem pe_mkX (M:XMk X.K C f) (F:Yd X.prog X.w X.K X.mg X.base CX k f fd ps sp) (hr:Vb (k + 1) X.A) (hg:Gl X x) (hm:X.mg x = some (.ref C)) (hb:Binds X.K fd ps []) (hx:Passes CX X E)
  (ha:PA X (e :: es) t) (hdb:(x == ("__debug__" : Str)) = false:=by decide) (he:starEach (e :: es) X.env = (false,eval e X.env) :: starEach es X.env:=by rfl) (hpl:(backTo pos (starEach es X.env)).any (·.1) = false:=by rfl) :
  PE X (.Call (.Name x p) (e :: es) [] pos) (tMkX C sp E t):=by
 intro pins s σ H Q I h
 refine wpAny_Call_Name_kw (ld_glob I hg hm ?_ hdb)
 exact PySem.W.callWith_K (h₀:=X.base) I.ok.mod.kin M.kp (Vx (ha pos pins s σ H _ I h) fun us s1 ⟨vs,H1,I1,r,z,q⟩ => ⟨I1.kIn,run_mkX M F hr hb hx I1 r z q⟩) he hpl
end
def Cx.tr (X:Cx) (pn:List (Addr × Obj)) (W:St→Hp→Addr→Addr→Option Addr→Prop):Cx:={ X with pn:=pn,xe:=fun v s' => ∃ e σ' H' C od,v = .ref e∧Zn { X with pn:=pn } [] σ' H' s'∧H' e = some (XHO e C od true)∧W σ' H' e C od }
def Cx.ec (X:Cx) (e:Addr):Cx:={ X with A:=X.A.mark (some (.ref e)),calm:=false,xe:=fun _ _ => False }
section
variable {X:Cx} {pins pn:List (Addr × Obj)} {σ:St} {H:Hp} {s:Shared} {e:Addr} {W:St→Hp→Addr→Addr→Option Addr→Prop}
theorem Zn.toPn (I:Zn X pins σ H s):Zn { X with pn:=X.pn ++ pins } [] σ H s :=
 ⟨⟨I.ok.mod,I.ok.kind,I.ok.glob,I.ok.blt,I.ok.above,I.ok.inj,I.ok.has,I.ok.cab,I.ok.hd,I.ok.frames,I.ok.stk,I.ok.exf,I.ok.bs,I.ok.bsz,I.ok.noex,I.ok.exfs,I.ok.funs,I.ok.frf⟩,I.os,I.bare,I.base,I.loc,I.cell,I.free,I.freeC,
  fun p hp => I.pin p (by simpa using hp),I.hok,I.len⟩
theorem Zn.ofPn (I:Zn { X with pn:=X.pn ++ pins } [] σ H s):Zn X pins σ H s :=
 ⟨⟨I.ok.mod,I.ok.kind,I.ok.glob,I.ok.blt,I.ok.above,I.ok.inj,I.ok.has,I.ok.cab,I.ok.hd,I.ok.frames,I.ok.stk,I.ok.exf,I.ok.bs,I.ok.bsz,I.ok.noex,I.ok.exfs,I.ok.funs,I.ok.frf⟩,I.os,I.bare,I.base,I.loc,I.cell,I.free,I.freeC,
  fun p hp => I.pin p (by simpa using hp),I.hok,I.len⟩
theorem Zn.toEc (I:Zn X pins σ H s):Zn (X.ec e) pins σ H s :=
 ⟨⟨I.ok.mod,I.ok.kind,I.ok.glob,I.ok.blt,I.ok.above,I.ok.inj,I.ok.has,I.ok.cab,(fun z => nomatch z),I.ok.frames,I.ok.stk,I.ok.exf,I.ok.bs,I.ok.bsz,I.ok.noex,I.ok.exfs,I.ok.funs,I.ok.frf⟩,I.os,I.bare,I.base,I.loc,I.cell,I.free,I.freeC,
  I.pin,I.hok,I.len⟩
theorem Zn.ofEc (ok:X.Ok) (I:Zn (X.ec e) pins σ H s):Zn X pins σ H s:=⟨ok,I.os,I.bare,I.base,I.loc,I.cell,I.free,I.freeC,I.pin,I.hok,I.len⟩
end
section
variable {X:Cx} {pins:List (Addr × Obj)} {σ:St} {H:Hp} {s:Shared}
theorem gone_ok {M:Model} {A:Around} {E:Value→Shared→Prop} {i:Nat} {n:Str} {pos:Pos} {Q:Unit→Shared→Prop} (I:Zn X pins σ H s) (hN:X.N.Nodup) (hi:X.N[i]? = some n) (hk:X.env.kindOf n = some .local)
  (h:∀ s',Zn X pins (σ.set i none) H s'→Q () s'):wpAny M A (do bindName X.env n .none; unbindBehindTheSuite X.env n pos) Q E s:=by
 obtain ⟨m,hn,hl⟩:=id I.loc
 have hcls:(X.env.scope.kind == .class || (X.env.scope.kind == .module && X.env.locals != X.env.globals)) = false:=by rw [I.ok.kind]; rfl
 have hiσ:i < σ.length:=by rw [I.len]; exact (List.getElem?_eq_some_iff.mp hi).1
 obtain ⟨oL,_,_,hoL,_⟩:=id hn
 refine wpAny_nameGoes_keeps hk hn hcls fun h' v hn' hs => ?_
 have ne:∀ b o,X.s₀.heap.get? b = some o→b ≠ X.env.locals:=fun b o e => Nat.ne_of_lt (Nat.lt_of_lt_of_le (Heap.lt_size e) I.ok.above)
 have hok:HOk X.prog X.w H h':=fun b ob e => by
  refine (I.hok b ob e).stay (fun c w' hc q => (hs.2 c ?_).trans q) (fun _ q => q) fun _ _ q => q
  rintro rfl
  rcases hc with rfl | hc
  ·rw [I.free] at e; cases e
  ·rw [I.free] at hc; cases hc
 refine h _ ⟨I.ok,I.os,I.bare,⟨fun b o e n hb hx => ?_,fun b o e n hb hx => ?_,I.base.free,fun b o e hx => ?_,I.base.tups,I.base.frzs,I.base.tbls⟩,⟨_,hn',fun j y v' e1 e2 e3 => ?_⟩,fun y c e => ?_,I.free,I.freeC,fun p hp => ?_,hok,by simpa using I.len⟩
 ·exact (hs.2 b (ne b o e)).trans (I.base.keep b o e n hb hx)
 ·obtain ⟨sl,e1⟩:=I.base.slot b o e n hb hx
  exact ⟨sl,(hs.2 b (ne b o e)).trans e1⟩
 ·obtain ⟨o',e1⟩:=I.base.there b o e hx
  exact ⟨o',(hs.2 b (ne b o e)).trans e1⟩
 ·by_cases hj:j = i
  ·subst hj
   rw [List.getElem?_set_self hiσ] at e2
   cases e2
  ·rw [List.getElem?_set_ne (Ne.symm hj)] at e2
   obtain ⟨u',r',q⟩:=hl j y v' e1 e2 e3
   refine ⟨u',r', ?_⟩
   rcases q with ⟨k,e⟩ | ⟨k,c,e,z⟩
   ·refine .inl ⟨k, ?_⟩
    have:y ≠ n:=fun e => hj (nodup_ix hN e1 (e ▸ hi))
    simp [this,e]
   ·exact .inr ⟨k,c,e,z.sameBut hs (I.cne y c e)⟩
 ·obtain ⟨w',z⟩:=I.cell y c e
  exact ⟨w',z.sameBut hs (I.cne y c e)⟩
 ·obtain ⟨e,n,ne,nf,d⟩:=I.pin p hp
  exact ⟨(hs.2 p.1 ne).trans e,n,ne,nf,d⟩
theorem Zn.noted {e C T:Addr} {od:Option Addr} {new:Bool} {h1 h2:Heap} {oe:Obj} (I:Zn X pins σ H s) (ea:H e = some (XHO e C od new)) (N:EX.Noted X.stack e T oe s.heap h1) (k:∀ b,b ≠ T→h2.get? b = h1.get? b)
  (x:XO e C od false h2):Zn X pins σ (Zo H e (XHO e C od false)) { s with heap:=h2 }:=by
 have nT:∀ b o,s.heap.get? b = some o→b ≠ T:=fun b o q z => Nat.lt_irrefl _ (Nat.lt_of_lt_of_le (Heap.lt_size (z ▸ q)) N.new)
 have ne:∀ {b},H b = none→b ≠ e:=fun q z => by rw [z,ea] at q; cases q
 have keep:∀ b o,b ≠ e→b ∉ frs X.stack→s.heap.get? b = some o→h2.get? b = some o:=fun b o hb hf q => (k b (nT b o q)).trans (N.keep b o hb hf q)
 have slot:∀ b o,b ≠ e→s.heap.get? b = some o→∃ sl,h2.get? b = some { o with slots:=sl }:=fun b o hb q => by
  obtain ⟨sl,z⟩:=N.slot b o hb q
  exact ⟨sl,(k b (nT b o q)).trans z⟩
 refine I.call (ch:=[]) (g':=s.gens) (d':=s.drawn) (t':=s.toks) ⟨fun b o q n hf _ => keep b o (ne n) hf q,fun b o q n _ _ => slot b o (ne n) q,fun b o q n _ => ?_,fun b o q _ => ?_,fun b xs q => ?_,fun b o u q => ?_,fun b p q => ⟨#[], ?_⟩⟩ (fun b u q => ?_) I.bare (fun b z => absurd z (by simp))
 ·rw [Zt (ne n)]; exact n
 ·by_cases z:b = e
  ·subst z; obtain ⟨vs,sl,q',_⟩:=x; exact ⟨_,q'⟩
  ·obtain ⟨sl,q'⟩:=slot b o z q; exact ⟨_,q'⟩
 ·rw [Zt (ext_ne ea q fun _ z => nomatch z)]; exact q
 ·rw [Zt (ext_ne ea q fun _ z => nomatch z)]; exact q
 ·rw [Zt (ext_ne ea q fun _ z => nomatch z),q]; simp
 ·by_cases z:b = e
  ·subst z; rw [Zq] at q; cases q; exact x.ok
  ·rw [Zt z] at q
   have nf:∀ {c u},H c = some u→c ∉ frs X.stack:=fun q' hf => by rw [I.stkFree _ hf] at q'; cases q'
   refine (I.hok b u q).stay (fun c w' hc r => ?_) (fun c r => ?_) fun c xs r => ?_
   ·rcases hc with hc | hc
    ·subst hc; exact keep c w' z (nf q) r
    ·exact keep c w' (ext_ne ea hc fun _ y => nomatch y) (nf hc) r
   ·rw [Zt (ext_ne ea r fun _ y => nomatch y)]; exact r
   ·rw [Zt (ext_ne ea r fun _ y => nomatch y)]; exact r
end
def Ends.less (D:Ends) (i:Nat):Ends:={ nx:=fun σ H => D.nx (σ.set i none) H,rt:=D.rt,bk:=fun σ H => D.bk (σ.set i none) H,ct:=fun σ H => D.ct (σ.set i none) H }
section
variable {X:Cx} {W:St→Hp→Addr→Addr→Option Addr→Prop}
theorem is_type_in {K:PySem.W.Frag} {M:Model} {h:Heap} {C:Addr} (k:K.In h) (e:(PySem.W.clsIn K C).isSome = true):EX.Lk M h (isType (.ref C)) true:=by
 unfold PySem.W.clsIn at e
 split at e
 ·rename_i ho; exact EX.is_cls (k _ _ ho) rfl
 ·cases e
end
section
variable {X:Cx}
end
theorem XCls.here {K:PySem.W.Frag} {C:Addr} (c:XCls K C):(PySem.W.clsIn K C).isSome = true:=by
 obtain ⟨cd,e,_⟩:=PySem.W.any_some c.hd
 rw [e]; rfl
theorem kitx_exc {K:PySem.W.Frag} {x C:Addr} (c:XCls K C):PySem.W.KitX K (.ref x) (.ref C) (fun h => ∃ o od,PySem.W.InstAt h x o C od) where
 ty:=fun M h X ⟨o,od,I⟩ => I.type
 it:=fun M h X _ => is_type_in X c.here
 ne:=fun h tp dd its n sl X htp => by
  refine Bool.eq_false_iff.mpr fun q => ?_
  have e:C = tp:=Value.ref.inj (beq_iff_eq.mp q)
  subst e
  have hs:=c.here
  unfold PySem.W.clsIn at hs
  split at hs
  ·rename_i ho
   have z:=X _ _ ho
   rw [htp] at z
   cases z
  ·cases hs
 ca:=fun X ⟨o,od,I⟩ k => EX.class_at X I c.ga c.hk c.be c.ob (EX.find_class c.here c.ca c.gs c.tk) k
def IsX (H:Hp) (a C:Addr):Prop:=∃ od new,H a = some (XHO a C od new)∧∀ d,od = some d→∃ fs,H d = some (DHO d fs)
theorem IsX.inst {P:Program} {w:World} {H:Hp} {h:Heap} {a C:Addr} (x:IsX H a C) (ok:HOk P w H h):∃ o od,PySem.W.InstAt h a o C od:=by
 obtain ⟨od,new,ea,hd⟩:=x
 obtain ⟨vs,sl,e,_⟩:=ok.xo ea
 cases od with
 | none => exact ⟨_,none,e,rfl,rfl,trivial⟩
 | some d =>
  obtain ⟨fs,ed⟩:=hd d rfl
  obtain ⟨_,mA,⟨o,es,ep,ho,_⟩,_⟩:=ok.do_ ed
  exact ⟨_,some o,e,rfl,rfl,ho⟩
theorem valsRefs:∀ {ds:List Addr} {us:List Value},Z1 (ds.map V.ref) us→us = ds.map Value.ref
 | [],_,.nil => rfl
 | d :: ds,_,.cons r t => by rw [valsRefs t,show _ = Value.ref d from r]; rfl
section
variable {X:Cx}
theorem call_isiX:Vi X (.builtin "isinstance") (fun xs H Q => ∃ a C D b,xs = [.ref a,.ref D]∧IsX H a C∧XCls X.K C∧PySem.W.kitOne X.K (.ref C) (.ref D) = some b∧Q (.bl b) H):=by
 intro pins s σ H xs us Q I r h
 obtain ⟨a,C,D,b,rfl,ix,c,e,q⟩:=h
 obtain ⟨u,w',rfl,rx,ry⟩:=vals2 r
 cases rx; cases ry
 exact PySem.W.kia_one (kitx_exc c) I.kIn (ix.inst I.hok) e (fun z => nomatch z) fun tk => ⟨.bl b,H,I.tok _,rfl,q⟩
theorem call_isiXB:Vi X (.builtin "isinstance") (fun xs H Q => ∃ a C T b,xs = [.ref a,.ty T]∧IsX H a C∧XCls X.K C∧PySem.W.kitOne X.K (.ref C) (.type T) = some b∧Q (.bl b) H):=by
 intro pins s σ H xs us Q I r h
 obtain ⟨a,C,T,b,rfl,ix,c,e,q⟩:=h
 obtain ⟨u,w',rfl,rx,ry⟩:=vals2 r
 cases rx; cases ry
 exact PySem.W.kia_one (kitx_exc c) I.kIn (ix.inst I.hok) e (fun z => nomatch z) fun tk => ⟨.bl b,H,I.tok _,rfl,q⟩
theorem call_isiXT:Vi X (.builtin "isinstance") (fun xs H Q => ∃ (a C p:Addr) (ds:List Addr) (b:Bool),xs = [.ref a,.ref p]∧H p = some (.tup (ds.map V.ref))∧IsX H a C∧XCls X.K C∧PySem.W.kitAny X.K (.ref C) (ds.map Value.ref) = some b∧Q (.bl b) H):=by
 intro pins s σ H xs us Q I r h
 obtain ⟨a,C,p,ds,b,rfl,hp,ix,c,e,q⟩:=h
 obtain ⟨u,w',rfl,rx,ry⟩:=vals2 r
 cases rx; cases ry
 obtain ⟨_,its,rv,o,ho,hc,n,hd⟩:=(show Y0 X.prog X.w H s.heap p (.tup (ds.map V.ref)) from I.hok p _ hp)
 rw [valsRefs rv] at hd
 obtain ⟨oc,od,dt,sl⟩:=o
 obtain rfl:oc = _:=hc
 obtain rfl:dt = _:=hd
 exact PySem.W.kia_tup (kitx_exc c) I.kIn (ix.inst I.hok) ho e (fun z => nomatch z) fun tk => ⟨.bl b,H,I.tok _,rfl,q⟩
end
end L2
namespace EX
open PySem
def QV (h:Heap) (vs:Array Value):Prop:=vs[1]? = some .none ∨ ∃ T oT ts,vs[1]? = some (.ref T)∧h.get? T = some oT∧oT.data = .fields ts∧ts[3]? = some .none
section
variable {M:Model} {A:Around} {E:Value→Shared→Prop} {s:Shared} {env:Env} {outer:List Env} {base:Heap} {L e T:Addr} {oe:Obj} {vs:Array Value} {Q:Unit→Shared→Prop}
theorem note_any (hfr:A.frames = some (env :: outer)) (hl:s.heap.FunFrames base (env :: outer)) (hf:env.frame = some L)
  (he:s.heap.get? e = some oe) (hd:oe.data = .fields vs) (hq:QV s.heap vs)
  (h:∀ h' T,Noted (env :: outer) e T oe s.heap h'→Q () { s with heap:=h' }):wpAny M A (noteFrame (.ref e) env) Q E s:=by
 rcases hq with h1 | ⟨T0,oT,ts,h1,hT,hdT,h3⟩
 ·exact note_new hfr hl hf he hd h1 h
 have hz:1 < vs.size:=(Array.getElem?_eq_some_iff.mp h1).1
 have hne:=frames_ne hl he hd
 unfold noteFrame
 simp only [hf]
 refine wpAny_bind (wpAny_field he hd h1 ?_)
 rw [if_pos (show (Value.ref T0 != Value.none) = true from by simp)]
 refine wpAny_bind (wpAny_field hT hdT h3 ?_)
 rw [if_neg (show ¬ ((Value.none == rawInt L) = true) from by simp [rawInt])]
 refine wpAny_bind (wpAny_setField hT hdT (Array.getElem?_eq_some_iff.mp h3).1 ?_)
 rw [Heap.update_setField_same _ _ _ _ _ _ hT hdT h3]
 refine wpAny_bind (wpAny_frameOf_fun hfr hl hf fun h₁ sl => wpAny_bind (wpAny_entryPlaceOf fun pl hpl => ?_))
 unfold EntryCells.newEntry newFields
 refine wpAny_bind (wpAny_newObj_type ?_ (hpl.sizeOk5 _ _ _ _ _))
 have e1:h₁.get? e = some oe:=(sl.2.1 e hne).trans he
 have z1:h₁.objs.size = s.heap.objs.size:=sl.1
 refine wpAny_setField (Heap.get?_push_of_some _ e1) hd hz (h _ h₁.objs.size ⟨fun b o hb hn q => ?_,fun b o hb q => ?_, ?_,Nat.le_of_eq z1.symm, ?_⟩)
 ·exact (Heap.get?_update_other _ _ (Ne.symm hb)).trans (Heap.get?_push_of_some _ ((sl.2.1 b hn).trans q))
 ·obtain ⟨x,q'⟩:=sl.2.2 b o q
  exact ⟨x,(Heap.get?_update_other _ _ (Ne.symm hb)).trans (Heap.get?_push_of_some _ q')⟩
 ·exact Heap.get?_update_self _ (Heap.get?_push_of_some _ e1) (Obj.isFreed_of_fields (Obj.data_mapFields hd _))
 ·refine ⟨_,_,(Heap.get?_update_other _ _ (Nat.ne_of_lt (Heap.lt_size e1))).trans (Heap.get?_push_size h₁ rfl),rfl, ?_⟩
  simp only [List.size_toArray,List.length_append,List.length_cons,List.length_nil]
  omega
theorem leave_at (hfr:A.frames = some (env :: outer)) (hl:s.heap.FunFrames base (env :: outer)) (hf:env.frame = some L)
  (he:s.heap.get? e = some oe) (hd:oe.data = .fields vs) (hq:QV s.heap vs)
  (h:∀ h1 h2 T,Noted (env :: outer) e T oe s.heap h1→(∀ b,b ≠ T→h2.get? b = h1.get? b)→QV h2 (vs.setIfInBounds 1 (.ref T))→Q () { s with heap:=h2 }):wpAny M A (leaving env (.ref e)) Q E s:=by
 have hz:1 < vs.size:=by
  rcases hq with h1 | ⟨_,_,_,h1,_⟩
  ·exact (Array.getElem?_eq_some_iff.mp h1).1
  ·exact (Array.getElem?_eq_some_iff.mp h1).1
 unfold leaving
 refine wpAny_bind (note_any hfr hl hf he hd hq fun g1 T N => ?_)
 obtain ⟨oT,ts,hT,hdT,hz3⟩:=N.tb
 have v1:(vs.setIfInBounds 1 (.ref T))[1]? = some (.ref T):=by simp [hz]
 refine wpAny_setFlight_none (s:={ s with heap:=g1 }) N.exc (Obj.data_mapFields hd _) v1 hT hdT hz3 (h g1 _ T N (fun b hb => Heap.get?_update_other _ _ (Ne.symm hb)) (.inr ⟨T,_,_,v1,Heap.get?_update_self _ hT (Obj.isFreed_of_fields (Obj.data_mapFields hdT _)),Obj.data_mapFields hdT _, ?_⟩))
 simp [hz3]
end
end EX
namespace L2
open PySem PySem.Spec PyProof.Rows
def QX (h:Heap) (a:Addr):Prop:=∃ oe vs,h.get? a = some oe∧oe.data = .fields vs∧EX.QV h vs
theorem upd_self {H:Hp} {a:Addr} {o:HO} (e:H a = some o):Zo H a o = H:=by
 funext b
 by_cases z:b = a
 ·subst z; rw [Zq,e]
 ·rw [Zt z]
abbrev XWT:=St→Hp→Addr→Addr→Option Addr→Prop
def CX1 (P:Program) (w:World):CXT:=fun outer H s E v s' => ∃ a H' C od,v = .ref a∧s'.os = s.os∧AllBare s'.gens∧Un (frs outer) [] H H' s.heap s'.heap∧HOk P w H' s'.heap∧H' a = some (XHO a C od false)∧QX s'.heap a∧E (.ref C) od H'
def XW (X:Cx) (W:XWT):Prop:=∀ (pins:List (Addr × Obj)) (σ:St) (H:Hp) (s:Shared) (a C:Addr) (od:Option Addr) (new:Bool),Zn X pins σ H s→H a = some (XHO a C od new)→QX s.heap a→W σ (Zo H a (XHO a C od false)) a C od→X.xe (.ref a) s
section
variable {X:Cx} {pins:List (Addr × Obj)} {σ:St} {H:Hp} {s s':Shared}
theorem leave_ok {M:Model} {Q:Unit→Shared→Prop} {E:Value→Shared→Prop} {a C:Addr} {od:Option Addr} {new:Bool} (I:Zn X pins σ H s) (ea:H a = some (XHO a C od new)) (q:QX s.heap a) (hst:X.stack = X.env :: X.outer) (hfr:X.env.frame = some X.env.locals)
  (k:∀ h',Zn X pins σ (Zo H a (XHO a C od false)) { s with heap:=h' }→QX h' a→Q () { s with heap:=h' }):wpAny M X.A (leaving X.env (.ref a)) Q E s:=by
 obtain ⟨oe,vs,he,hd,qv⟩:=q
 obtain ⟨vs',sl,hx,z1,_⟩:=I.hok.xo ea
 rw [he] at hx
 cases hx
 cases hd
 have fr:X.A.frames = some (X.env :: X.outer):=by rw [I.ok.frames,hst]
 have hl:s.heap.FunFrames X.base (X.env :: X.outer):=by rw [← hst]; exact I.stack
 refine EX.leave_at fr hl hfr he rfl qv fun g1 g2 T N k2 qv2 => ?_
 have nT:a ≠ T:=fun z => Nat.lt_irrefl _ (Nat.lt_of_lt_of_le (Heap.lt_size (z ▸ he)) N.new)
 have e2:g2.get? a = some ⟨.ref C,od,.fields (vs.setIfInBounds 1 (.ref T)),sl⟩:=(k2 a nT).trans N.exc
 exact k g2 (I.noted (T:=T) ea (by rw [hst]; exact N) k2 ⟨_,sl,e2,by simp [z1],fun z => nomatch z⟩) ⟨_,_,e2,rfl,qv2⟩
theorem CX1.inv {E:XK} {v:Value} (I:Zn X pins σ H s) (h:CX1 X.prog X.w X.stack H s E v s'):∃ a H' C od,v = .ref a∧Zn X pins σ H' s'∧H' a = some (XHO a C od false)∧QX s'.heap a∧E (.ref C) od H':=by
 obtain ⟨a,H',C,od,rfl,os,bare,un,hok,ea,q,e⟩:=h
 exact ⟨a,H',C,od,rfl,I.call' (ch:=[]) os un hok bare (fun b z => absurd z (by simp)),ea,q,e⟩
end
theorem xw_fn {P:Program} {w:World} {K:PySem.W.Frag} {mg:Str→Option Value} {base:Heap} {N:List Str} {qual:Str} {scope:Scope} {f:Addr} {cd:Value} {A:Around} {outer:List Env} {s:Shared} {H:Hp} {E:XK} :
  XW (cxOf (CX1 P w) P w K mg base N qual scope f cd A outer s H E) (fun _ H' _ C od => E (.ref C) od H'):=by
 intro pins σ H' s' a C od new I ea q e
 refine leave_ok (X:=cxOf (CX1 P w) P w K mg base N qual scope f cd A outer s H E) I ea q rfl rfl fun h' J q' => ?_
 exact ⟨a,_,C,od,rfl,J.os,J.bare,J.base,J.hok,Zq,q',e⟩
section
variable {P:Program} {w:World} {K:PySem.W.Frag} {mg:Str→Option Value} {base:Heap}
theorem Fun.okX {x qual:Str} {st:Stmt} {f:Addr} {fd:FuncData} {N ps:List Str} {k:Nat} {sp:Sp} (F:Fun K x qual st f fd) (S:Ze N ps (Zk st)) (len:∀ vs H Q E,sp vs H Q E→vs.length = ps.length)
  (hbody:∀ (cdv:Value) (A:Around) (outer:List Env) (s:Shared) (H:Hp) (vs:List V) (Q:VK) (E:XK),Vb k (A.deeper (envOfC qual (Zk st) s.heap.objs.size f cdv))→sp vs H Q E →
   ∃ t,PSs (cxOf (CX1 P w) P w K mg base N qual (Zk st) f cdv A outer s H E) (defBody st) t∧t { nx:=fun _ H' => Q .non H',rt:=Q } (start N vs) H):Yd P w K mg base (CX1 P w) (k + 1) f fd ps sp:=by
 obtain ⟨oc,od,kV,doc,pm,an,cdv,ct,osl,rfl,lk,hcd⟩:=F.ex
 exact fn_of lk hcd S len fun A outer s H vs Q E hr hsp => hbody cdv A outer s H vs Q E hr hsp
end
def FnX (P:Program) (w:World) (K:PySem.W.Frag) (mg:Str→Option Value) (base:Heap) (k:Nat) (x:Str) (ps:List Str) (sp:Sp):Prop :=
 ∃ f fd,Yd P w K mg base (CX1 P w) k f fd ps sp∧Binds K fd ps []∧PySem.W.keepIn K (.ref f) = true∧mg x = some (.ref f)
def tCallX (sp:Sp) (W:XWT) (t:TA):TE:=fun σ H Q => t σ H fun vs H1 => sp vs H1 Q fun Cv od H' => ∀ a C,Cv = .ref C→H' a = some (XHO a C od false)→W σ H' a C od
def tRaiseX (K:PySem.W.Frag) (W:XWT) (te:TE):TS:=fun _ σ H => te σ H fun v H1 => ∃ a C od,v = .ref a∧H1 a = some (XHO a C od true)∧XCls K C∧W σ (Zo H1 a (XHO a C od false)) a C od
section
variable {X:Cx} {W:XWT} {k:Nat} {x:Str} {ps:List Str} {sp:Sp} {p pos:Pos} {e:Expr} {es:List Expr} {t:TA} {te:TE}
theorem pe_callX (G:FnX X.prog X.w X.K X.mg X.base k x ps sp) (hw:XW X W) (hr:Vb k X.A) (hg:Gl X x) (ha:PA X (e :: es) t) (hdb:(x == ("__debug__" : Str)) = false:=by decide)
  (he:starEach (e :: es) X.env = (false,eval e X.env) :: starEach es X.env:=by rfl) (hpl:(backTo pos (starEach es X.env)).any (·.1) = false:=by rfl) :
  PE X (.Call (.Name x p) (e :: es) [] pos) (tCallX sp W t):=by
 obtain ⟨f,fd,F,hb,kp,m⟩:=G
 intro pins s σ H Q I h
 refine wpAny_Call_Name_kw (ld_glob I hg m ?_ hdb)
 refine PySem.W.callWith_K (h₀:=X.base) I.ok.mod.kin kp (Vx (ha pos pins s σ H _ I h) fun us s1 ⟨vs,H1,I1,r,q⟩ => ⟨I1.kIn, ?_⟩) he hpl
 have hl:(us ++ []).length = ps.length:=by rw [List.append_nil, ← r.length]; exact F.len _ _ _ _ q
 have bb:=hb s1 us I1.kIn hl
 rw [List.append_nil] at bb
 refine wpAny_call (codeAny_mono (F.run X.A X.stack s1 H1 ⟨us,[]⟩ us vs Q _ hr I1.env0 bb r q) fun r s' hq => ?_)
 cases r with
 | error v =>
  have hq:CX1 X.prog X.w X.stack H1 s1 (fun Cv od H' => ∀ a C,Cv = .ref C→H' a = some (XHO a C od false)→W σ H' a C od) v s':=hq
  obtain ⟨a,H',C,od,rfl,I',ea,qx,w'⟩:=CX1.inv I1 hq
  exact hw pins σ H' s' a C od false I' ea qx (by rw [upd_self ea]; exact w' a C rfl ea)
 | ok fl =>
  cases fl with
  | ret u => exact I1.after hq
  | next => exact False.elim hq
  | brk => exact False.elim hq
  | cont => exact False.elim hq
theorem ps_raiseX (hw:XW X W) (he:PE X e te) (hc:X.calm = true):PS X (.Raise (some e) none pos) (tRaiseX X.K W te):=by
 intro pins s σ H D I h
 rw [arm_exec_Raise]
 refine wpAny_bind (wpAny_standAt (EX.raise_at (I.ok.hd hc) ?_))
 refine wpAny_bind (Vx (he pins s σ H _ I h) fun v s1 ⟨x,H1,I1,rx,a,C,od,ex,ea,c,q⟩ => wpAny_bind (wpAny_standAt (wpAny_pure ?_)))
 subst ex
 obtain rfl:v = Value.ref a:=rx
 obtain ⟨vs,sl,hx,z1,z2⟩:=I1.hok.xo ea
 exact ⟨a,C,_,vs,rfl,hx,rfl,rfl,z2 rfl,PySem.W.looks_mroIn I1.kIn c.be,PySem.W.looks_typeIn I1.kIn c.ty,hw pins σ H1 s1 a C od true I1 ea ⟨_,_,hx,rfl,.inl (z2 rfl)⟩ q⟩
end
def Cx.tx (X:Cx) (pn:List (Addr × Obj)) (W:XWT):Cx:={ X with pn:=pn,xe:=fun v s' => ∃ e σ' H' C od new,v = .ref e∧Zn { X with pn:=pn } [] σ' H' s'∧H' e = some (XHO e C od new)∧QX s'.heap e∧W σ' (Zo H' e (XHO e C od false)) e C od }
section
variable {X:Cx} {pins pn:List (Addr × Obj)} {σ:St} {H:Hp} {s:Shared} {e:Addr} {W:XWT}
theorem Zn.toTx (I:Zn { X with pn:=pn } pins σ H s):Zn (X.tx pn W) pins σ H s:=I.wish _
theorem Zn.ofTx (I:Zn (X.tx pn W) pins σ H s):Zn { X with pn:=pn } pins σ H s:=(show Zn ({ X with pn:=pn }:Cx) pins σ H s from Zn.unwish (X:={ X with pn:=pn }) I)
theorem xw_tx:XW (X.tx pn W) W:=by
 intro pins σ H s a C od new I ea q w'
 exact ⟨a,σ,H,C,od,new,rfl,I.ofTx.pins_of fun p hp => absurd hp (by simp),ea,q,w'⟩
end
def tTryX (K:PySem.W.Frag) (D0:Addr) (W:XWT) (i:Nat) (tb:List (Addr × Obj)→TS) (th:Addr→TS):TS:=fun D σ H => (∀ pn,tb pn D σ H)∧∀ σ' H' e C od,H' e = some (XHO e C od false)→W σ' H' e C od →
 PySem.W.mroIn K C (.ref D0) = some true∧th e (D.less i) (σ'.set i (some (.ref e))) H'
section
variable {X:Cx}
theorem ps_tryX (W:XWT) (i:Nat) {D0:Addr} {n cls:Str} {body suite:List Stmt} {b₀:Stmt} {p hp pos:Pos} {tb:List (Addr × Obj)→TS} {th:Addr→TS} (hb:∀ pn,PSs (X.tx pn W) body (tb pn)) (hh:∀ e,PSs (X.ec e) (b₀ :: suite) (th e)) (hst:X.stack = X.env :: X.outer)
  (hfr:X.env.frame = some X.env.locals) (hg:Gl X cls) (hm:X.mg cls = some (.ref D0)) (dc:XCls X.K D0) (di:(PySem.W.clsIn X.K D0).isSome = true) (hN:X.N.Nodup) (hi:X.N[i]? = some n) (hx:X.env.scope.names.lookup n = some .local)
  (hdb:(cls == ("__debug__" : Str)) = false:=by decide) :
  PS X (.Try body [.ExceptHandler (some (.Name cls p)) (some n) (b₀ :: suite) hp] [] [] pos) (tTryX X.K D0 W i tb th):=by
 intro pins s σ H D I ⟨h1,h2⟩
 refine wpAny_Try_except (wpAny_mono (hb (X.pn ++ pins) [] s σ H D I.toPn.toTx (h1 _)) (fun f s1 q => ?_) fun v s1 q => ?_)
 ·cases f with
  | next => obtain ⟨σ',H',I',q⟩:=q; exact wpAny_execs_nil ⟨σ',H',I'.ofTx.ofPn,q⟩
  | ret u => obtain ⟨v,σ',H',I',r,q⟩:=q; exact ⟨v,σ',H',I'.ofTx.ofPn,r,q⟩
  | brk => obtain ⟨σ',H',I',q⟩:=q; exact ⟨σ',H',I'.ofTx.ofPn,q⟩
  | cont => obtain ⟨σ',H',I',q⟩:=q; exact ⟨σ',H',I'.ofTx.ofPn,q⟩
 ·obtain ⟨e,σ',H',C,od,new,rfl,I1,ea,qx,hw⟩:=q
  have I1:Zn X pins σ' H' s1:=I1.ofPn
  obtain ⟨vs,sl,hx1,z1,_⟩:=I1.hok.xo ea
  obtain ⟨oe',vs',he',hd',qv⟩:=qx
  rw [hx1] at he'
  cases he'
  cases hd'
  obtain ⟨hm1,hth⟩:=h2 σ' _ e C od Zq hw
  have fr:X.A.frames = some (X.env :: X.outer):=by rw [I1.ok.frames,hst]
  have hl:s1.heap.FunFrames X.base (X.env :: X.outer):=by rw [← hst]; exact I1.stack
  refine EX.note_any fr hl hfr hx1 rfl qv fun g1 T N => ?_
  have e1:g1.get? e = some ⟨.ref C,od,.fields (vs.setIfInBounds 1 (.ref T)),sl⟩:=N.exc
  have v1:(vs.setIfInBounds 1 (.ref T))[1]? = some (.ref T):=by simp [z1]
  obtain ⟨oT,ts,hT,hdT,hz3⟩:=N.tb
  refine EX.flight_off (s:={ s1 with heap:=g1 }) e1 rfl v1 hT hdT hz3 fun g2 k2 tb2 => ?_
  have nT:∀ b o,s1.heap.get? b = some o→b ≠ T:=fun b o q z => Nat.lt_irrefl _ (Nat.lt_of_lt_of_le (Heap.lt_size (z ▸ q)) N.new)
  have e2:g2.get? e = some ⟨.ref C,od,.fields (vs.setIfInBounds 1 (.ref T)),sl⟩:=(k2 e (nT _ _ hx1)).trans e1
  have I2:Zn X pins σ' (Zo H' e (XHO e C od false)) { s1 with heap:=g2 }:=I1.noted (T:=T) ea (by rw [hst]; exact N) k2 ⟨_,sl,e2,by simp [z1],fun z => nomatch z⟩
  refine EX.handle_at (D:=D0) (C:=C) (ld_glob (X:=X.ec e) I2.toEc hg hm ⟨rfl,PySem.W.looks_typeIn I2.kIn dc.ty,is_type_in I2.kIn di,PySem.W.looks_mroIn I2.kIn dc.be,EX.type_at e2 rfl,PySem.W.looks_mroIn I2.kIn hm1, ?_⟩ hdb)
  obtain ⟨oT',ts',hT',hdT',hz'⟩:=tb2
  refine EX.flight_off (s:={ s1 with heap:=g2 }) e2 rfl v1 hT' hdT' hz' fun g3 k3 _ => ?_
  have hTn:Zo H' e (XHO e C od false) T = none:=by
   rw [Zt (Ne.symm (nT _ _ hx1))]; exact I1.hok.fresh N.new
  have I3:Zn X pins σ' (Zo H' e (XHO e C od false)) { s1 with heap:=g3 }:=by
   refine Zn.turned (s:={ s1 with heap:=g2 }) (it:=T) (h':=g3) (t':=s1.toks) I2 (fun b o hb q => (k3 b hb).trans q) hTn (Nat.ne_of_gt (Nat.lt_of_lt_of_le I1.lt N.new)) (.inr (Nat.le_trans I1.sz N.new)) (fun y c q => ?_) fun y hy => ?_
   ·obtain ⟨v,o,ho,_⟩:=I1.cell y c q
    exact nT c o ho
   ·exact nT y.1 y.2 (I1.pin y hy).1
  refine store_ok (X:=X.ec e) I3.toEc hN hi (.inl hx) (show Z6 (.ref e) (.ref e) from rfl) (fun s4 I4 => ?_) (.inr hx)
  refine wpAny_mono (hh e pins s4 _ _ (D.less i) I4 hth) (fun f s5 q => ?_) fun _ _ z => z
  cases f with
  | next => obtain ⟨σ5,H5,I5,q⟩:=q; exact gone_ok (I5.ofEc I1.ok) hN hi hx fun s6 I6 => ⟨_,H5,I6,q⟩
  | ret u => obtain ⟨v,σ5,H5,I5,r,q⟩:=q; exact gone_ok (I5.ofEc I1.ok) hN hi hx fun s6 I6 => ⟨v,_,H5,I6,r,q⟩
  | brk => obtain ⟨σ5,H5,I5,q⟩:=q; exact gone_ok (I5.ofEc I1.ok) hN hi hx fun s6 I6 => ⟨_,H5,I6,q⟩
  | cont => obtain ⟨σ5,H5,I5,q⟩:=q; exact gone_ok (I5.ofEc I1.ok) hN hi hx fun s6 I6 => ⟨_,H5,I6,q⟩
end
def rSlS:V→Option Int→Option Int→Hp→VK→Prop:=fun x _ _ H Q => ∃ z:Str,x = .str z∧z.length ≤ sizeLine∧∀ z':Str,z'.length ≤ z.length→Q (.str z') H
section
variable {X:Cx}
theorem sl_str:SlR X rSlS:=by
 intro pins s σ H x v vl vu lo hi sl Q I rx hs pl pu h
 obtain ⟨z,rfl,hz,q⟩:=h
 obtain ⟨t,rfl⟩:=rx
 have q':∀ (l u:Option Int) (t':Tok) (k:Nat),EP X pins σ Q (.str (Txt.slice z l u) t') { s with toks:=k }:=fun l u t' k => ⟨.str _,H,I.tok _,⟨t',rfl⟩,q _ (Txt.slice_le z l u)⟩
 refine ⟨"str",_,PySem.F.slot_str_getitem.lookup,typeIs_str _ _ _, ?_⟩
 cases pl with
 | none => cases pu with
  | none => exact wpAny_getItem_str_slice (l:=none) (u:=none) (st:=none) hs rfl (post_val_or_str ⟨Nat.le_trans (Txt.slice_le z _ _) hz,fun t' k => q' none none t' k⟩)
  | int j uj => exact wpAny_getItem_str_slice (l:=none) (u:=some (j,uj)) (st:=none) hs rfl (post_val_or_str ⟨Nat.le_trans (Txt.slice_le z _ _) hz,fun t' k => q' none (some j) t' k⟩)
 | int i ui => cases pu with
  | none => exact wpAny_getItem_str_slice (l:=some (i,ui)) (u:=none) (st:=none) hs rfl (post_val_or_str ⟨Nat.le_trans (Txt.slice_le z _ _) hz,fun t' k => q' (some i) none t' k⟩)
  | int j uj => exact wpAny_getItem_str_slice (l:=some (i,ui)) (u:=some (j,uj)) (st:=none) hs rfl (post_val_or_str ⟨Nat.le_trans (Txt.slice_le z _ _) hz,fun t' k => q' (some i) (some j) t' k⟩)
end
section
variable {X:Cx} {pins:List (Addr × Obj)} {σ:St} {H:Hp} {s:Shared}
def rNotInD (K:PySem.W.Frag) (A:Around):R2:=fun x y H Q => ∃ p xs d ds,y = .ref p∧Yg K H p xs∧Yj K H d x∧Zm K H ds xs∧(∀ e ∈ ds,A.units + dpD e + 10 < cLine)∧Q (.bl (!(ds.any fun e => eqD e d))) H
theorem op_notInD:OpR X (compareOp .NotIn) (rNotInD X.K X.A):=by
 intro pins s σ H x y v u Q I rx ry h
 obtain ⟨p,xs,d,ds,rfl,hq,hd,ar,hu,q⟩:=h
 cases ry
 obtain ⟨its,r,pl,hz⟩:=I.list hq
 have l1:=ar.length
 have l2:=r.length
 classical
 have at_:∀ {i:Nat} {w:Value},its[i]? = some w→∃ dy xi,ds[i]? = some dy∧xs[i]? = some xi∧Yj X.K H dy xi∧Z6 xi w:=fun {i w} hw => by
  have hi:=(List.getElem?_eq_some_iff.mp hw).1
  obtain ⟨dy,hdy⟩:∃ dy,ds[i]? = some dy:=⟨_,List.getElem?_eq_getElem (by omega)⟩
  obtain ⟨xi,hxi,dd⟩:=ar.get hdy
  obtain ⟨w',hw',rr⟩:=r.get hxi
  rw [hw] at hw'
  cases hw'
  exact ⟨dy,xi,hdy,hxi,dd,rr⟩
 have key:∀ {i:Nat} {w:Value} {dy:D},its[i]? = some w→ds[i]? = some dy→decide (∃ (j:Nat) (dj:D),its[j]? = some w∧ds[j]? = some dj∧eqD dj d = true) = eqD dy d:=fun {i w dy} hw hdy => by
  cases e:eqD dy d with
  | true => exact decide_eq_true ⟨i,dy,hw,hdy,e⟩
  | false =>
   refine decide_eq_false fun ⟨j,dj,h1,h2,h3⟩ => ?_
   obtain ⟨da,xa,a1,a2,a3,a4⟩:=at_ hw
   obtain ⟨db,xb,b1,b2,b3,b4⟩:=at_ h1
   rw [hdy] at a1
   rw [h2] at b1
   cases a1
   cases b1
   have:=a4.inj b4
   subst this
   rw [Yj.inj I _ _ _ a3 b3,h3] at e
   cases e
 refine SeqAt.notIn_listAt (fun w => decide (∃ (j:Nat) (dj:D),its[j]? = some w∧ds[j]? = some dj∧eqD dj d = true)) pl.isList (fun w hw => ?_) ⟨.bl _,H,I,rfl, ?_⟩
 ·obtain ⟨i,hi⟩:=List.getElem?_of_mem (show w ∈ its by simpa using hw)
  obtain ⟨dy,xi,a1,a2,a3,a4⟩:=at_ hi
  have:=hu dy (List.mem_of_getElem? a1)
  show SeqAt.EqAt X.A.in1 s w v (decide _)
  rw [key hi a1]
  exact eqAt_D I dy d xi x w v X.A.in1 a3 hd a4 rx (by show X.A.units + 1 + dpD dy < cLine; omega) (by show X.A.units + 1 < cLine; omega)
 ·have e:(its.toArray.any fun w => decide (∃ (j:Nat) (dj:D),its[j]? = some w∧ds[j]? = some dj∧eqD dj d = true)) = ds.any fun e => eqD e d:=by
   rw [Bool.eq_iff_iff]
   simp only [List.any_toArray,List.any_eq_true,decide_eq_true_eq]
   constructor
   ·rintro ⟨w,hw,j,dj,h1,h2,h3⟩
    exact ⟨dj,List.mem_of_getElem? h2,h3⟩
   ·rintro ⟨dj,hm,h3⟩
    obtain ⟨j,hj⟩:=List.getElem?_of_mem hm
    have hl:=(List.getElem?_eq_some_iff.mp hj).1
    obtain ⟨w,hw⟩:∃ w,its[j]? = some w:=⟨_,List.getElem?_eq_getElem (by omega)⟩
    exact ⟨w,List.mem_of_getElem? hw,j,dj,hw,hj,h3⟩
  rw [e]
  exact q
end
end L2
namespace K07
open PySem PySem.Spec PyProof.Rows L2 K01
theorem b_len:bootBuiltins "len" = some (.builtin "len"):=by decide +kernel
theorem b_ord:bootBuiltins "ord" = some (.builtin "ord"):=by decide +kernel
theorem b_max:bootBuiltins "max" = some (.builtin "max"):=by decide +kernel
theorem b_sorted:bootBuiltins "sorted" = some (.builtin "sorted"):=by decide +kernel
theorem Vo:bootBuiltins "isinstance" = some (.builtin "isinstance"):=by decide +kernel
theorem b_tuple:bootBuiltins "tuple" = some (.type "tuple"):=by decide +kernel
theorem b_list:bootBuiltins "list" = some (.type "list"):=by decide +kernel
theorem b_set:bootBuiltins "set" = some (.type "set"):=by decide +kernel
theorem b_int:bootBuiltins "int" = some (.type "int"):=by decide +kernel
theorem b_str:bootBuiltins "str" = some (.type "str"):=by decide +kernel
theorem b_sum:bootBuiltins "sum" = some (.builtin "sum"):=by decide +kernel
theorem b_bool:bootBuiltins "bool" = some (.type "bool"):=by decide +kernel
structure Bn (mg:Str→Option Value):Prop where
 len:mg "len" = none
 ord:mg "ord" = none
 max:mg "max" = none
 sorted:mg "sorted" = none
 isinstance:mg "isinstance" = none
 tuple:mg "tuple" = none
 list:mg "list" = none
 set:mg "set" = none
 int:mg "int" = none
 str:mg "str" = none
 bool:mg "bool" = none
 range:mg "range" = none
 zip:mg "zip" = none
 reversed:mg "reversed" = none
 enumerate:mg "enumerate" = none
 sum:mg "sum" = none
structure Cn (mg:Str→Option Value):Prop where
 LETTERS:∃ t,mg "LETTERS" = some (.str LET t)
 SIGNS:∃ t,mg "SIGNS" = some (.str SGN t)
 GREATEST_WHOLE:∃ t,mg "GREATEST_WHOLE" = some (.int 1000000000000000000 t)
 GREATEST_NUMBER:∃ t,mg "GREATEST_NUMBER" = some (.int 999 t)
 LONGEST_TEXT:∃ t,mg "LONGEST_TEXT" = some (.int 200 t)
 LONGEST_NAME:∃ t,mg "LONGEST_NAME" = some (.int 8 t)
 DEEPEST:∃ t,mg "DEEPEST" = some (.int 100 t)
 GREATEST_SIZE:∃ t,mg "GREATEST_SIZE" = some (.int 1000000 t)
theorem Yr {b:Bool} {A B:Prop} (h:b = false) (q:B):if b = true then A else B:=by subst h; exact iteF q
theorem iteY {b:Bool} {A B:Prop} (h:b = true) (q:A):if b = true then A else B:=by subst h; exact iteT q
theorem alwaysT {σ:L2.St} {H:Hp} {A B:Hp→Prop} (h:A H):tAlways σ H fun ok H3 => if ok = true then A H3 else B H3:=by
 show if true = true then A H else B H
 exact iteT (A:=A H) (B:=B H) h
abbrev s_law_feed:Stmt:=top 48
abbrev N_law_feed:List Str:=["_law_script","_law_k","_law_cell"]
theorem sc_law_feed:Ze N_law_feed ["_law_script","_law_k"] (Zk s_law_feed):=by trivial
abbrev s_law_draw:Stmt:=top 49
abbrev N_law_draw:List Str:=["_law_feed_here","_law_many","_law_figure","_law_number_here"]
theorem sc_law_draw:Ze N_law_draw ["_law_feed_here","_law_many"] (Zk s_law_draw):=by trivial
abbrev s_law_name:Stmt:=top 50
abbrev N_law_name:List Str:=["_law_feed_here","_law_words","_law_letters"]
theorem sc_law_name:Ze N_law_name ["_law_feed_here"] (Zk s_law_name):=by trivial
abbrev s_law_number:Stmt:=top 51
abbrev N_law_number:List Str:=["_law_feed_here","_law_some"]
theorem sc_law_number:Ze N_law_number ["_law_feed_here"] (Zk s_law_number):=by trivial
abbrev s_law_whole:Stmt:=top 52
abbrev N_law_whole:List Str:=["_law_feed_here","_law_some","_law_number_here"]
theorem sc_law_whole:Ze N_law_whole ["_law_feed_here"] (Zk s_law_whole):=by trivial
abbrev s_law_text:Stmt:=top 53
abbrev N_law_text:List Str:=["_law_feed_here","_law_many","_law_signs","_law_start","_law_step"]
theorem Vj:Ze N_law_text ["_law_feed_here"] (Zk s_law_text):=by trivial
def spFeed (K:PySem.W.Frag):Sp:=fun vs H Q _ => ∃ (a:Addr) (ns:List Int) (k:Int),vs = [.ref a,.int k]∧Yg K H a (ns.map V.int)∧ns.length ≤ 63∧0 ≤ k∧∀ (l:Addr) (H':Hp),Zf H H'→H l = none→Feed H' l→Q (.ref l) H'
def spDraw:Sp:=fun vs H Q _ => ∃ (l:Addr) (m:Int),vs = [.ref l,.int m]∧Feed H l∧0 < m∧m < 1073741824∧∀ (r:Int) (H':Hp),0 ≤ r→r < m→Ye l H H'→Q (.int r) H'
def nameOk (x:Str):Prop:=1 ≤ x.length∧x.length ≤ 8∧∀ c ∈ x.cps.toList,97 ≤ c∧c ≤ 122
def textOk (x:Str):Prop:=x.length ≤ 200∧gdS x
def spStrD (p:Str→Prop):Sp:=fun vs H Q _ => ∃ l:Addr,vs = [.ref l]∧Feed H l∧∀ (x:Str) (H':Hp),p x→Ye l H H'→Q (.str x) H'
def spIntD (p:Int→Prop):Sp:=fun vs H Q _ => ∃ l:Addr,vs = [.ref l]∧Feed H l∧∀ (n:Int) (H':Hp),p n→Ye l H H'→Q (.int n) H'
instance (x:Str):Decidable (nameOk x):=inferInstanceAs (Decidable (_∧_∧_))
theorem words_ok:∀ x ∈ (["a","ab","abc","z","zz","abcdefgh","zzzzzzzz","b","ba","row"]:List Str),nameOk x:=by decide +kernel
theorem let_ok:∀ c ∈ (Str.cps "abcdefghijklmnopqrstuvwxyz").toList,97 ≤ c∧c ≤ 122:=by decide +kernel
instance (c:Nat):Decidable (gdC c):=inferInstanceAs (Decidable (_∧_∧_))
theorem signs_ok : ∀ c ∈ (((((" !#$&'()*+,-./0123456789:;<=>?\x40[]^_{|}~" : Str) ++ ("\"" : Str)) ++ ("\\" : Str)) ++ ("`" : Str)) ++ ("ABCDEFGHIJKLMNOPQRSTUVWXYZabcdefghijklmnopqrstuvwxyz" : Str)).cps.toList, gdC c := by decide +kernel
theorem pickS (ss:List Str) {r:Int} (h0:0 ≤ r) (h1:r < ss.length):∃ x,x ∈ ss∧atI (ss.map V.str) r = some (.str x):=by
 have hj:r.toNat < ss.length:=by omega
 refine ⟨ss[r.toNat],List.getElem_mem hj, ?_⟩
 have z:atI (ss.map V.str) ((r.toNat:Nat):Int) = some (.str ss[r.toNat]):=Z7 (by rw [List.getElem?_map,List.getElem?_eq_getElem hj]; rfl)
 rw [show ((r.toNat:Nat):Int) = r by omega] at z
 exact z
theorem pickI (ns:List Int) {r:Int} (h0:0 ≤ r) (h1:r < ns.length):∃ n,n ∈ ns∧atI (ns.map V.int) r = some (.int n):=by
 have hj:r.toNat < ns.length:=by omega
 refine ⟨ns[r.toNat],List.getElem_mem hj, ?_⟩
 have z:atI (ns.map V.int) ((r.toNat:Nat):Int) = some (.int ns[r.toNat]):=Z7 (by rw [List.getElem?_map,List.getElem?_eq_getElem hj]; rfl)
 rw [show ((r.toNat:Nat):Int) = r by omega] at z
 exact z
theorem pickC (cs:List Nat) {r:Int} (h0:0 ≤ r) (h1:r < cs.length):∃ c,c ∈ cs∧atI cs r = some c:=by
 have hj:r.toNat < cs.length:=by omega
 refine ⟨cs[r.toNat],List.getElem_mem hj, ?_⟩
 have z:atI cs ((r.toNat:Nat):Int) = some cs[r.toNat]:=Z7 (List.getElem?_eq_getElem hj)
 rw [show ((r.toNat:Nat):Int) = r by omega] at z
 exact z
def OnesP (p:Nat→Prop) (ss:List Str):Prop:=∀ x ∈ ss,∃ c,p c∧x = ⟨#[c]⟩
theorem ones_sum {p:Nat→Prop}:∀ {ss:List Str},OnesP p ss→(ss.map (·.length)).sum = ss.length
 | [],_ => rfl
 | x :: ss,h => by
  obtain ⟨c,_,rfl⟩:=h x List.mem_cons_self
  have h2:=ones_sum (ss:=ss) fun y my => h y (List.mem_cons_of_mem _ my)
  simp only [List.map_cons,List.sum_cons,List.length_cons,h2]
  show 1 + ss.length = ss.length + 1
  omega
theorem ones_more {p:Nat→Prop} {ss:List Str} {c:Nat} (h:OnesP p ss) (hc:p c):OnesP p (ss ++ [⟨#[c]⟩]):=fun x mx => by
 rcases List.mem_append.mp mx with mx | mx
 ·exact h x mx
 ·rw [List.mem_singleton.mp mx]; exact ⟨c,hc,rfl⟩
theorem join_go:∀ (l:List Str) (acc:Array Nat),(l.foldl (fun acc p => acc ++ (Str.cps "") ++ p.cps) acc).toList = acc.toList ++ (l.map fun x => x.cps.toList).flatten
 | [],acc => by simp
 | x :: l,acc => by
  rw [List.foldl_cons,join_go l,List.map_cons,List.flatten_cons,Array.toList_append,Array.toList_append]
  have e:(Str.cps "").toList = []:=by decide +kernel
  rw [e,List.append_nil,List.append_assoc]
theorem join_list:∀ ss:List Str,(Txt.join "" ss).cps.toList = (ss.map fun x => x.cps.toList).flatten
 | [] => rfl
 | x :: ss => by
  show ((ss.foldl (fun acc p => acc ++ (Str.cps "") ++ p.cps) x.cps)).toList = _
  rw [join_go,List.map_cons,List.flatten_cons]
theorem join_codes {p:Nat→Prop} {ss:List Str} (h:OnesP p ss):∀ c ∈ (Txt.join "" ss).cps.toList,p c:=by
 intro c mc
 rw [join_list] at mc
 obtain ⟨l,ml,mc⟩:=List.mem_flatten.mp mc
 obtain ⟨x,mx,rfl⟩:=List.mem_map.mp ml
 obtain ⟨c',pc,rfl⟩:=h x mx
 have e:c = c':=by simpa using mc
 rw [e]
 exact pc
theorem join_len {p:Nat→Prop} {ss:List Str} (h:OnesP p ss):(Txt.join "" ss).length = ss.length:=by
 show (Txt.join "" ss).cps.size = _
 rw [← Array.length_toList,join_list,List.length_flatten,List.map_map, ← ones_sum h]
 congr 1
theorem nameT {i:Nat} {v:V} {σ:L2.St} {H:Hp} {A B:L2.St→Hp→Prop} (h:A (σ.set i (some v)) H):gName i v σ H fun σ2 H2 => tAlways σ2 H2 fun ok H3 => if ok = true then A σ2 H3 else B σ2 H3 :=
 alwaysT (σ:=σ.set i (some v)) (A:=A (σ.set i (some v))) (B:=B (σ.set i (some v))) h
section
variable {P:Program} {w:World} {K:PySem.W.Frag} {mg:Str→Option Value} {base:Heap} {f:Addr} {fd:FuncData}
theorem ok_feed (F:Fun K "_law_feed" "_law_feed" s_law_feed f fd) (m:Bn mg):Yd P w K mg base CX0 1 f fd ["_law_script","_law_k"] (spFeed K):=by
 refine F.ok sc_law_feed (fun vs H Q E h => ?_) (fun cdv A outer s H vs Q E hr h => ?_)
 ·obtain ⟨a,ns,k,rfl,_⟩:=h
  rfl
 obtain ⟨a,ns,k,rfl,hS,h63,hk,q⟩:=h
 refine ⟨_,(@Zj _ _ _ _ _ (@Yk _ _ _ _ _ _ _ _ (@Zs _ _ _ _ _ _ _ _ Y3 (@Zp _ _ _ _ _ _ _ _ _ Z2 rfl m.len b_len (Zy (pv 0) Zx rfl) (by decide) (by decide) rfl rfl) Zz (Z0 _)) (@Zv _ _ _ (@Zr _ _ _ _ (@Yl _ _ _ _ (Zy Zz (Zy Zz (Zy (pv 1) (Zy Zz Zx rfl) rfl) rfl) rfl)))) Zi) (@Zj _ _ _ _ _ (@Zg _ 2 _ _ _ _ _ sc_law_feed.nd rfl (by trivial) (@Zc _ _ _ _ _ _ _ Yv (pv 0) (@Zb _ _ _ _ _ _ _ _ op_mod (pv 1) (@Zp _ _ _ _ _ _ _ _ _ Z2 rfl m.len b_len (Zy (pv 0) Zx rfl) (by decide) (by decide) rfl rfl)) (fun _ _ => rfl)) rfl (by trivial)) (@Zv _ _ _ (@Zr _ _ _ _ (@Yl _ _ _ _ (Zy (@Zp _ _ _ _ _ _ _ _ _ (call_max2 rfl) rfl m.max b_max (Zy Zz (Zy (@Zb _ _ _ _ _ _ _ _ op_sub (pv 2) (@Zb _ _ _ _ _ _ _ _ op_pow Zz Zz)) Zx rfl) rfl) (by decide) (by decide) rfl rfl) (Zy (pv 2) (Zy (pv 1) (Zy Zz Zx rfl) rfl) rfl) rfl)))))), ?_⟩
 have hl:(ns.map V.int).length = ns.length:=List.length_map _
 refine ⟨_,rfl,a,_,rfl,.inl hS,rfl,_,rfl, ?_⟩
 refine ite2 (fun c => ?_) (fun c => ?_)
 ·refine ⟨_,rfl,(sz 4),fun l hl' => ?_⟩
  exact q l _ ((Zf.refl H).put hl') hl' ⟨_,_,_,_,Zq⟩
 ·have c':0 < ns.length:=by
   rcases Nat.eq_zero_or_pos ns.length with z | z
   ·exfalso
    apply c
    rw [hl,z]
    rfl
   ·exact z
  have hpos:(0:Int) < (((ns.map V.int).length:Nat):Int):=by rw [hl]; omega
  have hr0:=Int.emod_nonneg k (Int.ne_of_gt hpos)
  have hr1:=Int.emod_lt_of_pos k hpos
  generalize hix:k % (((ns.map V.int).length:Nat):Int) = ix at hr0 hr1
  have hj:ix.toNat < ns.length:=by omega
  have hat:atI (ns.map V.int) ix = some (.int ns[ix.toNat]):=by
   have z:atI (ns.map V.int) ((ix.toNat:Nat):Int) = some (.int ns[ix.toNat]):=Z7 (by rw [List.getElem?_map,List.getElem?_eq_getElem hj] <;> rfl)
   rw [show ((ix.toNat:Nat):Int) = ix by omega] at z
   exact z
  refine ⟨_,rfl,_,rfl,_,rfl,a,_,rfl,.inl hS,_,_,rfl,rfl,hpos,a,_,_,_,rfl,rfl,hS,(by rw [hix]; exact hat), ?_⟩
  refine ⟨_,rfl,_,_,rfl,rfl,⟨by decide,by decide,by decide⟩,_,_,rfl,rfl,_,_,rfl,_,rfl,_,rfl,(sz 4),fun l hl' => ?_⟩
  exact q l _ ((Zf.refl H).put hl') hl' ⟨_,_,_,_,Zq⟩
theorem step_upd {l:Addr} {H:Hp} (a b c d:Int):Ye l H (Zo H l (.lst [.int a,.int b,.int c,.int d])):=⟨fun x o n h => by rw [Zt n]; exact h,a,b,c,d,Zq⟩
theorem ok_draw (F:Fun K "_law_draw" "_law_draw" s_law_draw f fd):Yd P w K mg base CX0 1 f fd ["_law_feed_here","_law_many"] spDraw:=by
 refine F.ok sc_law_draw (fun vs H Q E h => ?_) (fun cdv A outer s H vs Q E hr h => ?_)
 ·obtain ⟨l,m,rfl,_⟩:=h
  rfl
 obtain ⟨l,m,rfl,⟨a,b,c,d,hH⟩,hm,hm2,q⟩:=h
 refine ⟨_,(@Zj _ _ _ _ _ (@ps_asg _ _ _ _ _ _ (@Zb _ _ _ _ _ _ _ _ Z4 (@Zc _ _ _ _ _ _ _ Yv (pv 0) Zz (fun _ _ => rfl)) Zz) (@pg_sub _ _ _ _ _ _ _ (pv 0) Zz set_list (by trivial)) (by trivial) (by trivial) (by trivial)) (@Zj _ _ _ _ _ (@Yk _ _ _ _ _ _ _ _ (@Zs _ _ _ _ _ _ _ _ op_gt (@Zc _ _ _ _ _ _ _ Yv (pv 0) Zz (fun _ _ => rfl)) Zz (Z0 _)) (@Zj _ _ _ _ _ (@Zg _ 2 _ _ _ _ _ sc_law_draw.nd rfl (by trivial) (@Zb _ _ _ _ _ _ _ _ op_mod (@Zc _ _ _ _ _ _ _ Yv (pv 0) Zz (fun _ _ => rfl)) (pv 1)) rfl (by trivial)) (@Zj _ _ _ _ _ (@ps_asg _ _ _ _ _ _ (@Zb _ _ _ _ _ _ _ _ op_fdiv (@Zc _ _ _ _ _ _ _ Yv (pv 0) Zz (fun _ _ => rfl)) (pv 1)) (@pg_sub _ _ _ _ _ _ _ (pv 0) Zz set_list (by trivial)) (by trivial) (by trivial) (by trivial)) (@Zv _ _ _ (@Zr _ _ _ _ (pv 2))))) Zi) (@Zj _ _ _ _ _ (@Zg _ 3 _ _ _ _ _ sc_law_draw.nd rfl (by trivial) (@Zb _ _ _ _ _ _ _ _ op_mod (@Zb _ _ _ _ _ _ _ _ Z4 (@Zb _ _ _ _ _ _ _ _ Z4 (@Zc _ _ _ _ _ _ _ Yv (pv 0) Zz (fun _ _ => rfl)) (@Zb _ _ _ _ _ _ _ _ op_mul Zz (@Zc _ _ _ _ _ _ _ Yv (pv 0) Zz (fun _ _ => rfl)))) (@Zb _ _ _ _ _ _ _ _ op_mul Zz (@Zc _ _ _ _ _ _ _ Yv (pv 0) Zz (fun _ _ => rfl)))) Zz) rfl (by trivial)) (@Zj _ _ _ _ _ (@Zg _ 3 _ _ _ _ _ sc_law_draw.nd rfl (by trivial) (@Zb _ _ _ _ _ _ _ _ op_mod (@Zb _ _ _ _ _ _ _ _ Z4 (@Zb _ _ _ _ _ _ _ _ Z4 (@Zb _ _ _ _ _ _ _ _ op_mul (pv 3) (pv 3)) (@Zb _ _ _ _ _ _ _ _ op_mul Zz (pv 3))) (@Zc _ _ _ _ _ _ _ Yv (pv 0) Zz (fun _ _ => rfl))) Zz) rfl (by trivial)) (@Zj _ _ _ _ _ (@Zg _ 3 _ _ _ _ _ sc_law_draw.nd rfl (by trivial) (@Zb _ _ _ _ _ _ _ _ op_mod (@Zb _ _ _ _ _ _ _ _ Z4 (@Zb _ _ _ _ _ _ _ _ Z4 (@Zb _ _ _ _ _ _ _ _ op_mul (pv 3) (pv 3)) (@Zb _ _ _ _ _ _ _ _ op_mul Zz (pv 3))) (@Zc _ _ _ _ _ _ _ Yv (pv 0) Zz (fun _ _ => rfl))) Zz) rfl (by trivial)) (@Zv _ _ _ (@Zr _ _ _ _ (@Zb _ _ _ _ _ _ _ _ op_mod (pv 3) (pv 1))))))))), ?_⟩
 refine ⟨_,rfl,l,_,_,_,rfl,rfl,Yg.of hH,rfl,_,_,rfl,rfl,_,rfl,l,_,_,_,rfl,rfl,hH,rfl, ?_⟩
 have h2:Yg K (Zo H l (.lst [.int a,.int b,.int c,.int (d + 1)])) l [.int a,.int b,.int c,.int (d + 1)]:=Yg.of Zq
 refine ⟨_,rfl,l,_,_,_,rfl,rfl,h2,rfl,_,_,rfl,rfl,_,rfl, ?_⟩
 refine ite2 (fun c1 => ?_) (fun c1 => ?_)
 ·refine ⟨_,rfl,l,_,_,_,rfl,rfl,h2,rfl,_,rfl,_,_,rfl,rfl,hm, ?_⟩
  refine ⟨_,rfl,l,_,_,_,rfl,rfl,h2,rfl,_,rfl,_,_,rfl,rfl,⟨hm,hm2⟩,_,rfl,l,_,_,_,rfl,rfl,Zq,rfl, ?_⟩
  refine ⟨_,rfl, ?_⟩
  rw [upd_upd]
  exact q (a % m) _ (Int.emod_nonneg _ (by omega)) (Int.emod_lt_of_pos _ hm) (step_upd _ _ _ _)
 ·refine ⟨_,rfl,l,_,_,_,rfl,rfl,h2,rfl,_,rfl,l,_,_,_,rfl,rfl,h2,rfl,_,_,rfl,rfl,.inl ⟨by decide,by decide⟩,_,_,rfl,rfl,_,rfl,l,_,_,_,rfl,rfl,h2,rfl,_,_,rfl,rfl,.inl ⟨by decide,by decide⟩,_,_,rfl,rfl,_,_,rfl,rfl,(by show (0:Int) < 2147483629; decide), ?_⟩
  generalize hx1:(b + 7919 * c + 104729 * (d + 1)) % 2147483629 = x1
  have b1:0 ≤ x1∧x1 < 2147483629:=by omega
  refine ⟨_,rfl,_,rfl,_,_,rfl,rfl,.inl ⟨by omega,by omega⟩,_,rfl,_,_,rfl,rfl,.inl ⟨by decide,by decide⟩,_,_,rfl,rfl,_,rfl,l,_,_,_,rfl,rfl,h2,rfl,_,_,rfl,rfl,_,_,rfl,rfl,(by show (0:Int) < 2147483629; decide), ?_⟩
  generalize hx2:(x1 * x1 + 48271 * x1 + c) % 2147483629 = x2
  have b2:0 ≤ x2∧x2 < 2147483629:=by omega
  refine ⟨_,rfl,_,rfl,_,_,rfl,rfl,.inl ⟨by omega,by omega⟩,_,rfl,_,_,rfl,rfl,.inl ⟨by decide,by decide⟩,_,_,rfl,rfl,_,rfl,l,_,_,_,rfl,rfl,h2,rfl,_,_,rfl,rfl,_,_,rfl,rfl,(by show (0:Int) < 2147483587; decide), ?_⟩
  refine ⟨_,rfl,_,rfl,_,_,rfl,rfl,hm, ?_⟩
  exact q _ _ (Int.emod_nonneg _ (by omega)) (Int.emod_lt_of_pos _ hm) (step_upd _ _ _ _)
theorem ok_number (F:Fun K "_law_number" "_law_number" s_law_number f fd) (m:Bn mg) (g_law_draw:Fn P w K mg base 1 "_law_draw" ["_law_feed_here","_law_many"] spDraw):Yd P w K mg base CX0 2 f fd ["_law_feed_here"] (spIntD fun n => 1 ≤ n∧n ≤ 999):=by
 refine F.ok sc_law_number (fun vs H Q E h => ?_) (fun cdv A outer s H vs Q E hr h => ?_)
 ·obtain ⟨l,rfl,_⟩:=h
  rfl
 obtain ⟨l,rfl,fe,q⟩:=h
 refine ⟨_,(@Zj _ _ _ _ _ (@Zg _ 1 _ _ _ _ _ sc_law_number.nd rfl (by trivial) (@Yl _ _ _ _ (@Yt _ _ _ _ _ Zz (@Yt _ _ _ _ _ Zz (@Yt _ _ _ _ _ Zz (@Yt _ _ _ _ _ Zz (@Yt _ _ _ _ _ Zz (@Yt _ _ _ _ _ Zz (@Yt _ _ _ _ _ Zz (@Yt _ _ _ _ _ Zz (@Yt _ _ _ _ _ Zz (@Yt _ _ _ _ _ Zz (@Yt _ _ _ _ _ Zz (@Yt _ _ _ _ _ Zz (@Yt _ _ _ _ _ Zz Zx rfl) rfl) rfl) rfl) rfl) rfl) rfl) rfl) rfl) rfl) rfl) rfl) rfl)) rfl (by trivial)) (@Zj _ _ _ _ _ (@Yk _ _ _ _ _ _ _ _ (@Zs _ _ _ _ _ _ _ _ Y3 (@Zw _ _ _ _ _ _ _ _ _ _ g_law_draw hr.m rfl (@Yt _ _ _ _ _ (pv 0) (@Yt _ _ _ _ _ Zz Zx rfl) rfl) (by decide) rfl rfl) Zz (Z0 _)) (@Zv _ _ _ (@Zr _ _ _ _ (@Zb _ _ _ _ _ _ _ _ Z4 Zz (@Zw _ _ _ _ _ _ _ _ _ _ g_law_draw hr.m rfl (@Yt _ _ _ _ _ (pv 0) (@Yt _ _ _ _ _ Zz Zx rfl) rfl) (by decide) rfl rfl)))) Zi) (@Zv _ _ _ (@Zr _ _ _ _ (@Zc _ _ _ _ _ _ _ Yv (pv 1) (@Zw _ _ _ _ _ _ _ _ _ _ g_law_draw hr.m rfl (@Yt _ _ _ _ _ (pv 0) (@Yt _ _ _ _ _ Zz Zx rfl) rfl) (by decide) rfl rfl) (fun _ _ => rfl)))))), ?_⟩
 refine ⟨(sz 13),fun p hp => ?_⟩
 have np:=fe.ne hp
 have t0:=(Ye.refl fe).lay (o:=.lst ([1,2,9,10,99,100,127,128,129,255,256,998,999].map V.int)) fe hp
 refine ⟨_,rfl,l,3,rfl,t0.feed,by decide,by decide,fun r1 H1 _ _ t1 => ⟨rfl,_,rfl, ?_⟩⟩
 refine ite2 (fun c => ?_) (fun c => ?_)
 ·exact ⟨_,rfl,l,999,rfl,t1.feed,by decide,by decide,fun r2 H2 a2 b2 t2 => ⟨_,_,rfl,rfl,q _ H2 ⟨by omega,by omega⟩ ((t0.trans t1).trans t2)⟩⟩
 ·refine ⟨_,rfl,_,rfl,l,13,rfl,t1.feed,by decide,by decide,fun r2 H2 a b t2 => ?_⟩
  obtain ⟨n,mn,hn⟩:=pickI [1,2,9,10,99,100,127,128,129,255,256,998,999] a b
  exact ⟨p,_,_,_,rfl,rfl,Yg.of (t2.keep _ _ np (t1.keep _ _ np Zq)),hn,q _ H2 (by simp only [List.mem_cons,List.not_mem_nil,or_false] at mn; omega) ((t0.trans t1).trans t2)⟩
theorem ok_whole (F:Fun K "_law_whole" "_law_whole" s_law_whole f fd) (m:Bn mg) (g_law_draw:Fn P w K mg base 1 "_law_draw" ["_law_feed_here","_law_many"] spDraw):Yd P w K mg base CX0 2 f fd ["_law_feed_here"] (spIntD fun n => -1000000000000000000 ≤ n∧n ≤ 1000000000000000000):=by
 refine F.ok sc_law_whole (fun vs H Q E h => ?_) (fun cdv A outer s H vs Q E hr h => ?_)
 ·obtain ⟨l,rfl,_⟩:=h
  rfl
 obtain ⟨l,rfl,fe,q⟩:=h
 refine ⟨_,(@Zj _ _ _ _ _ (@Zg _ 1 _ _ _ _ _ sc_law_whole.nd rfl (by trivial) (@Yl _ _ _ _ (Zy Zz (Zy Zz (Zy (@pe_un _ _ _ _ _ _ un_neg Zz) (Zy Zz (Zy Zz (Zy (@pe_un _ _ _ _ _ _ un_neg Zz) (Zy (@pe_un _ _ _ _ _ _ un_neg Zz) (Zy Zz (Zy Zz (Zy Zz (Zy (@pe_un _ _ _ _ _ _ un_neg Zz) (Zy (@pe_un _ _ _ _ _ _ un_neg Zz) (Zy (@Zb _ _ _ _ _ _ _ _ op_pow Zz Zz) (Zy (@pe_un _ _ _ _ _ _ un_neg (@Zb _ _ _ _ _ _ _ _ op_pow Zz Zz)) (Zy (@Zb _ _ _ _ _ _ _ _ op_sub (@Zb _ _ _ _ _ _ _ _ op_pow Zz Zz) Zz) (Zy (@Zb _ _ _ _ _ _ _ _ op_sub Zz (@Zb _ _ _ _ _ _ _ _ op_pow Zz Zz)) Zx rfl) rfl) rfl) rfl) rfl) rfl) rfl) rfl) rfl) rfl) rfl) rfl) rfl) rfl) rfl) rfl)) rfl (by trivial)) (@Zj _ _ _ _ _ (@Yk _ _ _ _ _ _ _ _ (@Zs _ _ _ _ _ _ _ _ Y3 (@Zw _ _ _ _ _ _ _ _ _ _ g_law_draw hr.m rfl (Zy (pv 0) (Zy Zz Zx rfl) rfl) (by decide) rfl rfl) Zz (Z0 _)) (@Zv _ _ _ (@Zr _ _ _ _ (@Zc _ _ _ _ _ _ _ Yv (pv 1) (@Zw _ _ _ _ _ _ _ _ _ _ g_law_draw hr.m rfl (Zy (pv 0) (Zy Zz Zx rfl) rfl) (by decide) rfl rfl) (fun _ _ => rfl)))) Zi) (@Zj _ _ _ _ _ (@Zg _ 2 _ _ _ _ _ sc_law_whole.nd rfl (by trivial) (@Zb _ _ _ _ _ _ _ _ op_mod (@Zb _ _ _ _ _ _ _ _ op_mul (@Zw _ _ _ _ _ _ _ _ _ _ g_law_draw hr.m rfl (Zy (pv 0) (Zy (@Zb _ _ _ _ _ _ _ _ op_pow Zz Zz) Zx rfl) rfl) (by decide) rfl rfl) (@Zc _ _ _ _ _ _ _ Yv (@Yl _ _ _ _ (Zy Zz (Zy (@Zb _ _ _ _ _ _ _ _ op_pow Zz Zz) (Zy (@Zb _ _ _ _ _ _ _ _ op_pow Zz Zz) Zx rfl) rfl) rfl)) (@Zw _ _ _ _ _ _ _ _ _ _ g_law_draw hr.m rfl (Zy (pv 0) (Zy Zz Zx rfl) rfl) (by decide) rfl rfl) (fun _ _ => rfl))) (@Zb _ _ _ _ _ _ _ _ Z4 (@Zb _ _ _ _ _ _ _ _ op_pow Zz Zz) Zz)) rfl (by trivial)) (@Zv _ _ _ (@Zr _ _ _ _ (@Zc _ _ _ _ _ _ _ Yv (@Yl _ _ _ _ (Zy (pv 2) (Zy (@pe_un _ _ _ _ _ _ un_neg (pv 2)) Zx rfl) rfl)) (@Zw _ _ _ _ _ _ _ _ _ _ g_law_draw hr.m rfl (Zy (pv 0) (Zy Zz Zx rfl) rfl) (by decide) rfl rfl) (fun _ _ => rfl))))))), ?_⟩
 have pw:CPow 10 18:=⟨by decide,by decide,by decide⟩
 refine ⟨_,rfl,_,rfl,_,rfl,_,rfl,_,rfl,_,_,rfl,rfl,pw,_,_,rfl,rfl,pw,_,rfl,_,_,rfl,rfl,pw,_,_,rfl,rfl,_,_,rfl,rfl,pw,_,_,rfl,rfl,(sz 16),fun p hp => ?_⟩
 have np:=fe.ne hp
 have t0:=(Ye.refl fe).lay (o:=.lst ([0,1, -1,63,64, -64, -65,127,8191,8192, -8192, -8193,(10:Int) ^ (18:Int).toNat, -((10:Int) ^ (18:Int).toNat),(10:Int) ^ (18:Int).toNat - 1,1 - (10:Int) ^ (18:Int).toNat].map V.int)) fe hp
 refine ⟨_,rfl,l,3,rfl,t0.feed,by decide,by decide,fun r1 H1 _ _ t1 => ⟨rfl,_,rfl, ?_⟩⟩
 refine ite2 (fun c => ?_) (fun c => ?_)
 ·refine ⟨_,rfl,_,rfl,l,16,rfl,t1.feed,by decide,by decide,fun r2 H2 a b t2 => ?_⟩
  obtain ⟨n,mn,hn⟩:=pickI [0,1, -1,63,64, -64, -65,127,8191,8192, -8192, -8193,(10:Int) ^ (18:Int).toNat, -((10:Int) ^ (18:Int).toNat),(10:Int) ^ (18:Int).toNat - 1,1 - (10:Int) ^ (18:Int).toNat] a b
  exact ⟨p,_,_,_,rfl,rfl,Yg.of (t2.keep _ _ np (t1.keep _ _ np Zq)),hn,q _ H2 (by rw [show (10:Int) ^ (18:Int).toNat = 1000000000000000000 from rfl] at mn; simp only [List.mem_cons,List.not_mem_nil,or_false] at mn; omega) ((t0.trans t1).trans t2)⟩
 ·have t01:=t0.trans t1
  refine ⟨_,rfl,_,_,rfl,rfl,⟨by decide,by decide,by decide⟩,l,10 ^ (9:Int).toNat,rfl,t1.feed,by decide,by decide,fun r2 H2 a2 b2 t2 => ?_⟩
  have t02:=t01.trans t2
  refine ⟨_,_,rfl,rfl,⟨by decide,by decide,by decide⟩,_,_,rfl,rfl,⟨by decide,by decide,by decide⟩,(sz 3),fun p2 hp2 => ?_⟩
  have t03:=t02.lay (o:=.lst ([1,(10:Int) ^ (5:Int).toNat,(10:Int) ^ (9:Int).toNat].map V.int)) fe hp2
  have np2:=t02.feed.ne hp2
  refine ⟨_,rfl,l,3,rfl,t03.feed,by decide,by decide,fun r3 H3 a3 b3 t3 => ?_⟩
  obtain ⟨n3,m3,hn3⟩:=pickI [1,(10:Int) ^ (5:Int).toNat,(10:Int) ^ (9:Int).toNat] a3 b3
  have b2':r2 < 1000000000:=b2
  refine ⟨p2,_,_,_,rfl,rfl,Yg.of (t3.keep _ _ np2 Zq),hn3,_,_,rfl,rfl,.inl ⟨by omega,by omega⟩,_,_,rfl,rfl,pw,_,_,rfl,rfl,_,_,rfl,rfl,(by show (0:Int) < 10 ^ (18:Int).toNat + 1; decide), ?_⟩
  have t04:=t03.trans t3
  refine ⟨_,rfl,_,rfl,_,rfl,(sz 2),fun p4 hp4 => ?_⟩
  have t05:=t04.lay (o:=.lst ([r2 * n3 % ((10:Int) ^ (18:Int).toNat + 1), -(r2 * n3 % ((10:Int) ^ (18:Int).toNat + 1))].map V.int)) fe hp4
  have np4:=t04.feed.ne hp4
  refine ⟨_,rfl,l,2,rfl,t05.feed,by decide,by decide,fun r5 H5 a5 b5 t5 => ?_⟩
  obtain ⟨n5,m5,hn5⟩:=pickI [r2 * n3 % ((10:Int) ^ (18:Int).toNat + 1), -(r2 * n3 % ((10:Int) ^ (18:Int).toNat + 1))] a5 b5
  exact ⟨p4,_,_,_,rfl,rfl,Yg.of (t5.keep _ _ np4 Zq),hn5,q _ H5 (by rw [show (10:Int) ^ (18:Int).toNat = 1000000000000000000 from rfl] at m5; simp only [List.mem_cons,List.not_mem_nil,or_false] at m5; omega) (t05.trans t5)⟩
theorem joins {c A:Prop} [Decidable c] {D:Ends} {σ:L2.St} {H:Hp} (J:L2.St→Hp→Prop) (hJ:∀ σ H,J σ H→D.nx σ H) (h1:c→(∀ σ H,J σ H→D.nx σ H)→A) (h2:¬ c→J σ H):if c then A else tNext D σ H :=
 ite2 (fun c' => h1 c' hJ) fun c' => hJ _ _ (h2 c')
theorem ok_name (F:Fun K "_law_name" "_law_name" s_law_name f fd) (m:Bn mg) (g_law_draw:Fn P w K mg base 1 "_law_draw" ["_law_feed_here","_law_many"] spDraw):Yd P w K mg base CX0 2 f fd ["_law_feed_here"] (spStrD nameOk):=by
 refine F.ok sc_law_name (fun vs H Q E h => ?_) (fun cdv A outer s H vs Q E hr h => ?_)
 ·obtain ⟨l,rfl,_⟩:=h
  rfl
 obtain ⟨l,rfl,fe,q⟩:=h
 refine ⟨_,(@Zj _ _ _ _ _ (@Zg _ 1 _ _ _ _ _ sc_law_name.nd rfl (by trivial) (@Yl _ _ _ _ (Zy Zd (Zy Zd (Zy Zd (Zy Zd (Zy Zd (Zy Zd (Zy Zd (Zy Zd (Zy Zd (Zy Zd Zx rfl) rfl) rfl) rfl) rfl) rfl) rfl) rfl) rfl) rfl)) rfl (by trivial)) (@Zj _ _ _ _ _ (@Yk _ _ _ _ _ _ _ _ (@Zs _ _ _ _ _ _ _ _ Y3 (@Zw _ _ _ _ _ _ _ _ _ _ g_law_draw hr.m rfl (Zy (pv 0) (Zy Zz Zx rfl) rfl) (by decide) rfl rfl) Zz (Z0 _)) (@Zv _ _ _ (@Zr _ _ _ _ (@Zc _ _ _ _ _ _ _ Yv (pv 1) (@Zw _ _ _ _ _ _ _ _ _ _ g_law_draw hr.m rfl (Zy (pv 0) (Zy Zz Zx rfl) rfl) (by decide) rfl rfl) (fun _ _ => rfl)))) Zi) (@Zj _ _ _ _ _ (@Zg _ 2 _ _ _ _ _ sc_law_name.nd rfl (by trivial) Zd rfl (by trivial)) (@Zv _ _ _ (@Zr _ _ _ _ (@pe_bm _ _ _ _ _ _ _ _ _ _ _ _ PySem.F.plainAttrs_str PySem.F.slot_str_join PySem.F.type_str_join mt_join Zd (Zy (@Y6 _ N_law_name (Zk s_law_name) ["_law_k","_law_letters","_law_feed_here"] [none,some 2,some 0] _ _ _ _ _ _ _ _ _ _ rfl (@Vr _ _ _ _ _ _ rfl m.range (Zy (@Zb _ _ _ _ _ _ _ _ Z4 Zz (@Zw _ _ _ _ _ _ _ _ _ _ g_law_draw hr.m rfl (Zy (pv 0) (Zy Zz Zx rfl) rfl) (by decide) rfl rfl)) Zx rfl) (by trivial)) ⟨rfl,rfl,by decide +kernel,by decide +kernel⟩ (fun _ _ _ => (@Zh _ 0 _ _ (show List.Nodup (["_law_k","_law_letters","_law_feed_here"]:List Str) from by decide +kernel) rfl (Or.inl rfl) (by trivial))) (fun _ _ _ => Vz) (fun _ _ _ => (@Zc _ _ _ _ _ _ _ ix_str (pv 1) (@Zw _ _ _ _ _ _ _ _ _ _ g_law_draw hr.m rfl (Zy (pv 2) (Zy Zz Zx rfl) rfl) (by decide) rfl rfl) (fun _ _ => rfl))) (by trivial)) Zx rfl) (by trivial) (by trivial) (by trivial) (by trivial) (by trivial))))))), ?_⟩
 refine ⟨(sz 10),fun p hp => ?_⟩
 have np:=fe.ne hp
 have t0:=(Ye.refl fe).lay (o:=.lst ((["a","ab","abc","z","zz","abcdefgh","zzzzzzzz","b","ba","row"]:List Str).map V.str)) fe hp
 refine ⟨_,rfl,l,2,rfl,t0.feed,by decide,by decide,fun r1 H1 _ _ t1 => ⟨rfl,_,rfl, ?_⟩⟩
 have t01:=t0.trans t1
 refine ite2 (fun c => ?_) (fun c => ?_)
 ·refine ⟨_,rfl,_,rfl,l,10,rfl,t1.feed,by decide,by decide,fun r2 H2 a b t2 => ?_⟩
  obtain ⟨n,mn,hn⟩:=pickS ["a","ab","abc","z","zz","abcdefgh","zzzzzzzz","b","ba","row"] a b
  exact ⟨p,_,_,_,rfl,rfl,Yg.of (t2.keep _ _ np (t1.keep _ _ np Zq)),hn,q _ H2 (words_ok n mn) (t01.trans t2)⟩
 ·refine ⟨rfl,_,rfl,l,8,rfl,t1.feed,by decide,by decide,fun r2 H2 a2 b2 t2 => ?_⟩
  refine ⟨_,_,rfl,rfl,_,rfl,by omega,by omega,fun Dd fp sx hD => ?_⟩
  have t02:=t01.trans t2
  have nD:=t02.feed.ne hD
  have hD0:=t02.free fe hD
  refine comp_range (n:=(1 + r2).toNat) (fun i ys σ H5 => ∃ (ss:List Str) (o:Option V),ys = ss.map V.str∧OnesP (fun c => 97 ≤ c∧c ≤ 122) ss∧ss.length = i∧σ = [o,some (.str "abcdefghijklmnopqrstuvwxyz"),some (.ref l)]∧Ye l H H5∧H5 Dd = some (.lst ys))
   ⟨[],_,rfl,fun x mx => (List.not_mem_nil mx).elim,rfl,rfl,t02.put nD hD0,Zq⟩ ?_ ?_ ?_
  ·rintro i ys σ H5 hi ⟨ss,o,rfl,o1,l1,rfl,t5,h5⟩
   exact h5
  ·rintro i ys σ H5 hi ⟨ss,o,rfl,o1,l1,rfl,t5,h5⟩
   refine nameT ?_
   refine ⟨_,rfl,_,rfl,l,26,rfl,t5.feed,by decide,by decide,fun r6 H6 a6 b6 t6 => ?_⟩
   obtain ⟨c,mc,hc⟩:=pickC (Str.cps "abcdefghijklmnopqrstuvwxyz").toList a6 (by rw [show (Str.cps "abcdefghijklmnopqrstuvwxyz").toList.length = 26 by decide +kernel]; exact b6)
   refine ⟨_,_,_,rfl,rfl,(by decide +kernel),hc,t6.keep _ _ nD h5, ?_,ss ++ [⟨#[c]⟩],_, ?_,ones_more o1 (let_ok c mc), ?_,rfl,(t5.trans t6).put nD hD0,Zq⟩
   ·rw [List.length_map]; exact Y7 (by omega)
   ·rw [List.map_append]; rfl
   ·rw [List.length_append,List.length_singleton]; omega
  ·rintro ys σ H5 ⟨ss,o,rfl,o1,l1,rfl,t5,h5⟩
   refine ⟨_,Dd,ss,rfl,rfl,Yg.of h5, ?_,q _ H5 ⟨?_, ?_, ?_⟩ t5⟩
   ·rw [ones_sum o1]
    show ss.length + ss.length * 0 ≤ 16777216
    omega
   ·rw [join_len o1]; omega
   ·rw [join_len o1]; omega
   ·exact join_codes o1
theorem ok_text (F:Fun K "_law_text" "_law_text" s_law_text f fd) (m:Bn mg) (g_law_draw:Fn P w K mg base 1 "_law_draw" ["_law_feed_here","_law_many"] spDraw):Yd P w K mg base CX0 2 f fd ["_law_feed_here"] (spStrD textOk):=by
 refine F.ok Vj (fun vs H Q E h => ?_) (fun cdv A outer s H vs Q E hr h => ?_)
 ·obtain ⟨l,rfl,_⟩:=h
  rfl
 obtain ⟨l,rfl,fe,q⟩:=h
 refine ⟨_,(@Zj _ _ _ _ _ (@Zg _ 1 _ _ _ _ _ Vj.nd rfl (by trivial) (@Zw _ _ _ _ _ _ _ _ _ _ g_law_draw hr.m rfl (Zy (pv 0) (Zy Zz Zx rfl) rfl) (by decide) rfl rfl) rfl (by trivial)) (@Zj _ _ _ _ _ (@Yk _ _ _ _ _ _ _ _ (@Zs _ _ _ _ _ _ _ _ Y3 (@Zw _ _ _ _ _ _ _ _ _ _ g_law_draw hr.m rfl (Zy (pv 0) (Zy Zz Zx rfl) rfl) (by decide) rfl rfl) Zz (Z0 _)) (@Zv _ _ _ (@Zg _ 1 _ _ _ _ _ Vj.nd rfl (by trivial) (@Zc _ _ _ _ _ _ _ Yv (@Yl _ _ _ _ (Zy Zz (Zy Zz (Zy Zz (Zy Zz (Zy Zz (Zy Zz Zx rfl) rfl) rfl) rfl) rfl) rfl)) (@Zw _ _ _ _ _ _ _ _ _ _ g_law_draw hr.m rfl (Zy (pv 0) (Zy Zz Zx rfl) rfl) (by decide) rfl rfl) (fun _ _ => rfl)) rfl (by trivial))) Zi) (@Zj _ _ _ _ _ (@Zg _ 2 _ _ _ _ _ Vj.nd rfl (by trivial) (@Zb _ _ _ _ _ _ _ _ op_add_str (@Zb _ _ _ _ _ _ _ _ op_add_str (@Zb _ _ _ _ _ _ _ _ op_add_str Zd Zd) Zd) Zd) rfl (by trivial)) (@Zj _ _ _ _ _ (@Zg _ 2 _ _ _ _ _ Vj.nd rfl (by trivial) (@Zb _ _ _ _ _ _ _ _ op_add_str (pv 2) Zd) rfl (by trivial)) (@Zj _ _ _ _ _ (@Zg _ 3 _ _ _ _ _ Vj.nd rfl (by trivial) (@Zw _ _ _ _ _ _ _ _ _ _ g_law_draw hr.m rfl (Zy (pv 0) (Zy Zz Zx rfl) rfl) (by decide) rfl rfl) rfl (by trivial)) (@Zj _ _ _ _ _ (@Zg _ 4 _ _ _ _ _ Vj.nd rfl (by trivial) (@Zb _ _ _ _ _ _ _ _ Z4 Zz (@Zw _ _ _ _ _ _ _ _ _ _ g_law_draw hr.m rfl (Zy (pv 0) (Zy Zz Zx rfl) rfl) (by decide) rfl rfl)) rfl (by trivial)) (@Zv _ _ _ (@Zr _ _ _ _ (@pe_bm _ _ _ _ _ _ _ _ _ _ _ _ PySem.F.plainAttrs_str PySem.F.slot_str_join PySem.F.type_str_join mt_join Zd (Zy (@Y6 _ N_law_text (Zk s_law_text) ["_law_k","_law_signs","_law_start","_law_step"] [none,some 2,some 3,some 4] _ _ _ _ _ _ _ _ _ _ rfl (@Vr _ _ _ _ _ _ rfl m.range (Zy (pv 1) Zx rfl) (by trivial)) ⟨rfl,rfl,by decide +kernel,by decide +kernel⟩ (fun _ _ _ => (@Zh _ 0 _ _ (show List.Nodup (["_law_k","_law_signs","_law_start","_law_step"]:List Str) from by decide +kernel) rfl (Or.inl rfl) (by trivial))) (fun _ _ _ => Vz) (fun _ _ _ => (@Zc _ _ _ _ _ _ _ ix_str (pv 1) (@Zb _ _ _ _ _ _ _ _ op_mod (@Zb _ _ _ _ _ _ _ _ Z4 (pv 2) (@Zb _ _ _ _ _ _ _ _ op_mul (pv 3) (pv 0))) Zz) (fun _ _ => rfl))) (by trivial)) Zx rfl) (by trivial) (by trivial) (by trivial) (by trivial) (by trivial)))))))))), ?_⟩
 refine ⟨_,rfl,l,5,rfl,fe,by decide,by decide,fun r1 H1 a1 b1 t1 => ?_⟩
 refine ⟨_,rfl,l,12,rfl,t1.feed,by decide,by decide,fun r2 H2 _ _ t2 => ⟨rfl,_,rfl, ?_⟩⟩
 have t02:=t1.trans t2
 refine joins (fun σ H3 => ∃ many:Int,0 ≤ many∧many ≤ 200∧σ = [some (.ref l),some (.int many),none,none,none]∧Ye l H H3) ?_ (fun c k => ?_) (fun c => ⟨r1,a1,by omega,rfl,t02⟩)
 ·rintro σ H3 ⟨many,m0,m1,rfl,t3⟩
  refine ⟨_,_,rfl,rfl,(by decide +kernel),_,_,rfl,rfl,(by decide +kernel),_,_,rfl,rfl,(by decide +kernel), ?_⟩
  refine ⟨_,rfl,_,_,rfl,rfl,(by decide +kernel), ?_⟩
  generalize hz : ((((" !#$&'()*+,-./0123456789:;<=>?\x40[]^_{|}~" : Str) ++ ("\"" : Str)) ++ ("\\" : Str)) ++ ("`" : Str)) ++ ("ABCDEFGHIJKLMNOPQRSTUVWXYZabcdefghijklmnopqrstuvwxyz" : Str) = z
  have zl:z.cps.toList.length = 94:=by rw [← hz]; decide +kernel
  have zl2:z.length ≤ sizeLine:=by rw [← hz]; decide +kernel
  have zg:∀ c ∈ z.cps.toList,gdC c:=by rw [← hz]; exact signs_ok
  refine ⟨_,rfl,l,94,rfl,t3.feed,by decide,by decide,fun r4 H4 a4 b4 t4 => ?_⟩
  refine ⟨_,rfl,l,93,rfl,t4.feed,by decide,by decide,fun r5 H5 a5 b5 t5 => ⟨_,_,rfl,rfl, ?_⟩⟩
  have t06:=(t3.trans t4).trans t5
  refine ⟨rfl,_,rfl,many,rfl,by omega,by omega,fun Dd fp sx hD => ?_⟩
  have nD:=t06.feed.ne hD
  have hD0:=t06.free fe hD
  refine comp_range (n:=many.toNat) (fun i ys σ H5 => ∃ (ss:List Str) (o:Option V),ys = ss.map V.str∧OnesP gdC ss∧ss.length = i∧σ = [o,some (.str z),some (.int r4),some (.int (1 + r5))]∧Ye l H H5∧H5 Dd = some (.lst ys))
   ⟨[],_,rfl,fun x mx => (List.not_mem_nil mx).elim,rfl,rfl,t06.put nD hD0,Zq⟩ ?_ ?_ ?_
  ·rintro i ys σ H5 hi ⟨ss,o,rfl,o1,l1,rfl,t5,h5⟩
   exact h5
  ·rintro i ys σ H5 hi ⟨ss,o,rfl,o1,l1,rfl,t5,h5⟩
   refine nameT ?_
   obtain ⟨c,mc,hc⟩:=pickC z.cps.toList (r:=(r4 + (1 + r5) * (0 + (i:Int))) % 94) (by omega) (by rw [zl]; omega)
   refine ⟨_,rfl,_,rfl,_,rfl,_,rfl,_,_,rfl,rfl,.inl ⟨by omega,by omega⟩,_,_,rfl,rfl,_,_,rfl,rfl,(by show (0:Int) < 94; decide),_,_,_,rfl,rfl,zl2,hc,h5, ?_,ss ++ [⟨#[c]⟩],_, ?_,ones_more o1 (zg c mc), ?_,rfl,t5.put nD hD0,Zq⟩
   ·rw [List.length_map]; exact Y7 (by omega)
   ·rw [List.map_append]; rfl
   ·rw [List.length_append,List.length_singleton]; omega
  ·rintro ys σ H5 ⟨ss,o,rfl,o1,l1,rfl,t5,h5⟩
   refine ⟨_,Dd,ss,rfl,rfl,Yg.of h5, ?_,q _ H5 ⟨?_, ?_⟩ t5⟩
   ·rw [ones_sum o1]
    show ss.length + ss.length * 0 ≤ 16777216
    omega
   ·rw [join_len o1]; omega
   ·exact join_codes o1
 ·refine ⟨(sz 6),fun p hp => ?_⟩
  have t03:=t02.lay (o:=.lst ([126,127,128,129,199,200].map V.int)) fe hp
  have np:=t02.feed.ne hp
  refine ⟨_,rfl,l,6,rfl,t03.feed,by decide,by decide,fun r3 H3 a3 b3 t3 => ?_⟩
  obtain ⟨n3,m3,hn3⟩:=pickI [126,127,128,129,199,200] a3 b3
  refine ⟨p,_,_,_,rfl,rfl,Yg.of (t3.keep _ _ np Zq),hn3,k _ _ ⟨n3, ?_, ?_,rfl,t03.trans t3⟩⟩
  ·simp only [List.mem_cons,List.not_mem_nil,or_false] at m3
   omega
  ·simp only [List.mem_cons,List.not_mem_nil,or_false] at m3
   omega
end
abbrev s_law_item:Stmt:=top 54
abbrev N_law_item:List Str:=["_law_feed_here","_law_deep","_law_kind","_law_many","_law_parts_here","_law_keys"]
theorem Vt:Ze N_law_item ["_law_feed_here","_law_deep"] (Zk s_law_item):=by trivial
def Gd:Good:=⟨fun n => -1000000000000000000 ≤ n∧n ≤ 1000000000000000000,textOk,nameOk,fun n => 1 ≤ n∧n ≤ 999,fun ks => (∀ x ∈ ks,nameOk x)∧adj ltS ks,fun ks => (∀ n ∈ ks,1 ≤ n∧n ≤ 999)∧ks.Pairwise (· < ·)⟩
def spItem (K:PySem.W.Frag) (G:Good) (d:Nat):Sp:=fun vs H Q _ => ∃ l:Addr,vs = [.ref l,.int d]∧Feed H l∧∀ (r:V) (e:D) (H':Hp),Itm G (d + 1) e→Yj K H' e r→Ye l H H'→Q r H'
def spI (K:PySem.W.Frag) (G:Good):Nat→Sp
 | 0 => fun _ _ _ _ => False
 | d + 1 => spItem K G d
theorem pairs_take:∀ as bs:List D,Yb as bs = Yb as (bs.take as.length)
 | [],bs => by simp [Yb]
 | a :: as,[] => by simp
 | a :: as,b :: bs => by
  simp only [Yb,List.length_cons,List.take_succ_cons]
  rw [← pairs_take as bs]
theorem areS {K:PySem.W.Frag} {H:Hp}:∀ xs:List Str,Zm K H (xs.map D.str) (xs.map V.str)
 | [] => rfl
 | x :: xs => ⟨.str x,xs.map V.str,rfl,rfl,areS xs⟩
theorem areI {K:PySem.W.Frag} {H:Hp}:∀ xs:List Int,Zm K H (xs.map D.int) (xs.map V.int)
 | [] => rfl
 | x :: xs => ⟨.int x,xs.map V.int,rfl,rfl,areI xs⟩
theorem nodup_inr {zs:List Str} (h:(zs.map (Sum.inr:Str→Key)).Nodup):zs.Nodup:=by
 induction zs with
 | nil => exact .nil
 | cons z zs ih =>
  have h':=List.nodup_cons.mp h
  exact List.nodup_cons.mpr ⟨fun m => h'.1 (List.mem_map.mpr ⟨z,m,rfl⟩),ih h'.2⟩
theorem nodup_inl {zs:List Int} (h:(zs.map (Sum.inl:Int→Key)).Nodup):zs.Nodup:=by
 induction zs with
 | nil => exact .nil
 | cons z zs ih =>
  have h':=List.nodup_cons.mp h
  exact List.nodup_cons.mpr ⟨fun m => h'.1 (List.mem_map.mpr ⟨z,m,rfl⟩),ih h'.2⟩
theorem all_inr:∀ {us:List Key} {ss:List Str},(∀ x,x ∈ us→x ∈ ss.map Sum.inr)→∃ zs:List Str,us = zs.map Sum.inr
 | [],_,_ => ⟨[],rfl⟩
 | u :: us,ss,h => by
  obtain ⟨s,_,rfl⟩:=List.mem_map.mp (h u List.mem_cons_self)
  obtain ⟨zs,rfl⟩:=all_inr (us:=us) fun x mx => h x (List.mem_cons_of_mem _ mx)
  exact ⟨s :: zs,rfl⟩
theorem all_inl:∀ {us:List Key} {ss:List Int},(∀ x,x ∈ us→x ∈ ss.map Sum.inl)→∃ zs:List Int,us = zs.map Sum.inl
 | [],_,_ => ⟨[],rfl⟩
 | u :: us,ss,h => by
  obtain ⟨s,_,rfl⟩:=List.mem_map.mp (h u List.mem_cons_self)
  obtain ⟨zs,rfl⟩:=all_inl (us:=us) fun x mx => h x (List.mem_cons_of_mem _ mx)
  exact ⟨s :: zs,rfl⟩
section
variable {P:Program} {w:World} {K:PySem.W.Frag} {mg:Str→Option Value} {base:Heap} {f:Addr} {fd:FuncData}
theorem ok_item (F:Fun K "_law_item" "_law_item" s_law_item f fd) (m:Bn mg) (bd:Binds K fd ["_law_feed_here","_law_deep"] []) (mf:mg "_law_item" = some (.ref f)) (g_law_draw:Fn P w K mg base 1 "_law_draw" ["_law_feed_here","_law_many"] spDraw)
  (g_law_name:Fn P w K mg base 2 "_law_name" ["_law_feed_here"] (spStrD nameOk)) (g_law_text:Fn P w K mg base 2 "_law_text" ["_law_feed_here"] (spStrD textOk)) (g_law_number:Fn P w K mg base 2 "_law_number" ["_law_feed_here"] (spIntD fun n => 1 ≤ n∧n ≤ 999)) (g_law_whole:Fn P w K mg base 2 "_law_whole" ["_law_feed_here"] (spIntD fun n => -1000000000000000000 ≤ n∧n ≤ 1000000000000000000)) :
  ∀ d,Yd P w K mg base CX0 (d + 2) f fd ["_law_feed_here","_law_deep"] (spI K Gd d)
 | 0 => ⟨fun vs H Q E h => h.elim,fun A outer s H args us vs Q E _ _ _ _ h => h.elim⟩
 | d + 1 => by
  have g_law_item:Fn P w K mg base (d + 2) "_law_item" ["_law_feed_here","_law_deep"] (spI K Gd d):=⟨f,fd,ok_item F m bd mf g_law_draw g_law_name g_law_text g_law_number g_law_whole d,bd,F.kp,mf⟩
  refine F.ok Vt (fun vs H Q E h => ?_) (fun cdv A outer s H vs Q E hr h => ?_)
  ·obtain ⟨l,rfl,_⟩:=h
   rfl
  obtain ⟨l,rfl,fe,q⟩:=h
  refine ⟨_,(@Zj _ _ _ _ _ (@Zg _ 2 _ _ _ _ _ Vt.nd rfl (by trivial) (@Zw _ _ _ _ _ _ _ _ _ _ g_law_draw hr.m rfl (Zy (pv 0) (Zy Zz Zx rfl) rfl) (by decide) rfl rfl) rfl (by trivial)) (@Zj _ _ _ _ _ (@Yk _ _ _ _ _ _ _ _ (@PW.pt _ _ _ (@pw_or _ _ _ _ _ _ _ (@Zs _ _ _ _ _ _ _ _ Y3 (pv 1) Zz (Z0 _)) (@pw_or1 _ _ _ _ (@Zs _ _ _ _ _ _ _ _ op_lt (pv 2) Zz (Z0 _))))) (@Zj _ _ _ _ _ (@Yk _ _ _ _ _ _ _ _ (@Zs _ _ _ _ _ _ _ _ Y3 (@Zb _ _ _ _ _ _ _ _ op_mod (pv 2) Zz) Zz (Z0 _)) (@Zv _ _ _ (@Zr _ _ _ _ (@Z5 _ _ _ _ _ (Zy Zd (Zy (@Zw _ _ _ _ _ _ _ _ _ _ g_law_whole hr.m rfl (Zy (pv 0) Zx rfl) (by decide) rfl rfl) Zx rfl) rfl)))) Zi) (@Zv _ _ _ (@Zr _ _ _ _ (@Z5 _ _ _ _ _ (Zy Zd (Zy (@Zw _ _ _ _ _ _ _ _ _ _ g_law_text hr.m rfl (Zy (pv 0) Zx rfl) (by decide) rfl rfl) Zx rfl) rfl))))) Zi) (@Zj _ _ _ _ _ (@Yk _ _ _ _ _ _ _ _ (@Zs _ _ _ _ _ _ _ _ Y3 (pv 2) Zz (Z0 _)) (@Zv _ _ _ (@Zr _ _ _ _ (@Z5 _ _ _ _ _ (Zy Zd (Zy (@Zw _ _ _ _ _ _ _ _ _ _ g_law_number hr.m rfl (Zy (pv 0) Zx rfl) (by decide) rfl rfl) (Zy (@Zw _ _ _ _ _ _ _ _ _ _ g_law_item hr.m rfl (Zy (pv 0) (Zy (@Zb _ _ _ _ _ _ _ _ op_sub (pv 1) Zz) Zx rfl) rfl) (by decide) rfl rfl) Zx rfl) rfl) rfl)))) Zi) (@Zj _ _ _ _ _ (@Zg _ 3 _ _ _ _ _ Vt.nd rfl (by trivial) (@Zw _ _ _ _ _ _ _ _ _ _ g_law_draw hr.m rfl (Zy (pv 0) (Zy Zz Zx rfl) rfl) (by decide) rfl rfl) rfl (by trivial)) (@Zj _ _ _ _ _ (@ps_setCompI _ 4 N_law_item (Zk s_law_item) ["_law_k","_law_feed_here","_law_deep"] [none,some 0,some 1] _ _ _ _ _ _ _ _ _ _ _ _ _ Vt.nd rfl (by trivial) rfl (@Vr _ _ _ _ _ _ rfl m.range (Zy (pv 3) Zx rfl) (by trivial)) ⟨rfl,rfl,by decide +kernel,by decide +kernel⟩ (fun _ _ _ => (@Zh _ 0 _ _ (show List.Nodup (["_law_k","_law_feed_here","_law_deep"]:List Str) from by decide +kernel) rfl (Or.inl rfl) (by trivial))) (fun _ _ _ => Vz) (fun _ _ _ => (@Zw _ _ _ _ _ _ _ _ _ _ g_law_item hr.m rfl (Zy (pv 1) (Zy (@Zb _ _ _ _ _ _ _ _ op_sub (pv 2) Zz) Zx rfl) rfl) (by decide) rfl rfl)) (by trivial) (by trivial) (by trivial)) (@Zj _ _ _ _ _ (@Yk _ _ _ _ _ _ _ _ (@Zs _ _ _ _ _ _ _ _ op_lt (pv 2) Zz (Z0 _)) (@Zv _ _ _ (@Zr _ _ _ _ (@Z5 _ _ _ _ _ (Zy Zd (Zy (@Yu _ _ _ _ _ _ _ _ _ Y1 rfl m.tuple b_tuple (Zy (pv 4) Zx rfl) (by trivial) (by trivial) (by trivial) (by trivial)) Zx rfl) rfl)))) Zi) (@Zj _ _ _ _ _ (@Yk _ _ _ _ _ _ _ _ (@Zs _ _ _ _ _ _ _ _ op_lt (pv 2) Zz (Z0 _)) (@Zj _ _ _ _ _ (@Zg _ 5 _ _ _ _ _ Vt.nd rfl (by trivial) (@Zp _ _ _ _ _ _ _ _ _ (call_sortedS rfl) rfl m.sorted b_sorted (Zy (@Yu _ _ _ _ _ _ _ _ _ (call_setK rfl) rfl m.set b_set (Zy (@Y6 _ N_law_item (Zk s_law_item) ["_law_k","_law_feed_here"] [none,some 0] _ _ _ _ _ _ _ _ _ _ rfl (@Vr _ _ _ _ _ _ rfl m.range (Zy (pv 3) Zx rfl) (by trivial)) ⟨rfl,rfl,by decide +kernel,by decide +kernel⟩ (fun _ _ _ => (@Zh _ 0 _ _ (show List.Nodup (["_law_k","_law_feed_here"]:List Str) from by decide +kernel) rfl (Or.inl rfl) (by trivial))) (fun _ _ _ => Vz) (fun _ _ _ => (@Zw _ _ _ _ _ _ _ _ _ _ g_law_name hr.m rfl (Zy (pv 1) Zx rfl) (by decide) rfl rfl)) (by trivial)) Zx rfl) (by trivial) (by trivial) (by trivial) (by trivial)) Zx rfl) (by decide) (by decide) rfl rfl) rfl (by trivial)) (@Zv _ _ _ (@Zr _ _ _ _ (@Z5 _ _ _ _ _ (Zy Zd (Zy (@Yu _ _ _ _ _ _ _ _ _ Y1 rfl m.tuple b_tuple (Zy (@pe_listZip _ _ _ _ _ _ _ _ rfl rfl m.list rfl m.zip (Zy (pv 5) (Zy (pv 4) Zx rfl) rfl) (by trivial) (by trivial) (by trivial)) Zx rfl) (by trivial) (by trivial) (by trivial) (by trivial)) Zx rfl) rfl))))) Zi) (@Zj _ _ _ _ _ (@Zg _ 5 _ _ _ _ _ Vt.nd rfl (by trivial) (@Zp _ _ _ _ _ _ _ _ _ (call_sortedI rfl) rfl m.sorted b_sorted (Zy (@Yu _ _ _ _ _ _ _ _ _ (call_setK rfl) rfl m.set b_set (Zy (@Y6 _ N_law_item (Zk s_law_item) ["_law_k","_law_feed_here"] [none,some 0] _ _ _ _ _ _ _ _ _ _ rfl (@Vr _ _ _ _ _ _ rfl m.range (Zy (pv 3) Zx rfl) (by trivial)) ⟨rfl,rfl,by decide +kernel,by decide +kernel⟩ (fun _ _ _ => (@Zh _ 0 _ _ (show List.Nodup (["_law_k","_law_feed_here"]:List Str) from by decide +kernel) rfl (Or.inl rfl) (by trivial))) (fun _ _ _ => Vz) (fun _ _ _ => (@Zw _ _ _ _ _ _ _ _ _ _ g_law_number hr.m rfl (Zy (pv 1) Zx rfl) (by decide) rfl rfl)) (by trivial)) Zx rfl) (by trivial) (by trivial) (by trivial) (by trivial)) Zx rfl) (by decide) (by decide) rfl rfl) rfl (by trivial)) (@Zv _ _ _ (@Zr _ _ _ _ (@Z5 _ _ _ _ _ (Zy Zd (Zy (@Yu _ _ _ _ _ _ _ _ _ Y1 rfl m.tuple b_tuple (Zy (@pe_listZip _ _ _ _ _ _ _ _ rfl rfl m.list rfl m.zip (Zy (pv 5) (Zy (pv 4) Zx rfl) rfl) (by trivial) (by trivial) (by trivial)) Zx rfl) (by trivial) (by trivial) (by trivial) (by trivial)) Zx rfl) rfl)))))))))))), ?_⟩
  refine ⟨_,rfl,l,9,rfl,fe,by decide,by decide,fun kind H1 k0 k9 t1 => ?_⟩
  refine ⟨_,rfl,rfl,_,rfl, ?_⟩
  refine ite2 (fun c => ?_) (fun c => ?_)
  ·refine ⟨_,rfl,_,_,rfl,rfl,(by show (0:Int) < 2; decide),rfl,_,rfl, ?_⟩
   refine ite2 (fun c9 => ?_) (fun c9 => ?_)
   ·refine ⟨_,rfl,l,rfl,t1.feed,fun n H2 pn t2 => ⟨(sz 2),fun p hp => ?_⟩⟩
    exact q _ (.tup [.str "whole",.int n]) _ (.inl ⟨n,rfl,pn⟩) ⟨p,_,rfl,Z9.of Zq,Zm.two rfl rfl⟩ ((t1.trans t2).lay fe hp)
   ·refine ⟨_,rfl,l,rfl,t1.feed,fun x H2 px t2 => ⟨(sz 2),fun p hp => ?_⟩⟩
    exact q _ (.tup [.str "text",.str x]) _ (.inr (.inl ⟨x,rfl,px⟩)) ⟨p,_,rfl,Z9.of Zq,Zm.two rfl rfl⟩ ((t1.trans t2).lay fe hp)
  ·refine ⟨_,rfl,_,_,rfl,rfl,_,rfl, ?_⟩
   refine ite2 (fun c2 => ?_) (fun c2 => ?_)
   ·refine ⟨_,rfl,_,_,rfl,rfl,(by show (0:Int) < 2; decide),rfl,_,rfl, ?_⟩
    refine ite2 (fun c9 => ?_) (fun c9 => ?_)
    ·refine ⟨_,rfl,l,rfl,t1.feed,fun n H2 pn t2 => ⟨(sz 2),fun p hp => ?_⟩⟩
     exact q _ (.tup [.str "whole",.int n]) _ (.inl ⟨n,rfl,pn⟩) ⟨p,_,rfl,Z9.of Zq,Zm.two rfl rfl⟩ ((t1.trans t2).lay fe hp)
    ·refine ⟨_,rfl,l,rfl,t1.feed,fun x H2 px t2 => ⟨(sz 2),fun p hp => ?_⟩⟩
     exact q _ (.tup [.str "text",.str x]) _ (.inr (.inl ⟨x,rfl,px⟩)) ⟨p,_,rfl,Z9.of Zq,Zm.two rfl rfl⟩ ((t1.trans t2).lay fe hp)
   ·have d0:d ≠ 0:=fun z => by
     subst z
     exact c rfl
    obtain ⟨d',rfl⟩:∃ d',d = d' + 1:=⟨d - 1,by omega⟩
    have ed:((d' + 1:Nat):Int) - 1 = (d':Nat):=by omega
    refine ⟨_,rfl,rfl,_,rfl, ?_⟩
    refine ite2 (fun c3 => ?_) (fun c3 => ?_)
    ·
     refine ⟨_,rfl,l,rfl,t1.feed,fun n H2 pn t2 => ?_⟩
     refine ⟨_,rfl,_,rfl,_,_,rfl,rfl,l, ?_,t2.feed,fun r e H3 ie de t3 => ?_⟩
     ·rw [← ed]; rfl
     refine ⟨(sz 3),fun p hp => ?_⟩
     have t13:=(t1.trans t2).trans t3
     refine q _ (.tup [.str "arm",.int n,e]) _ (.inr (.inr (.inl ⟨n,e,rfl,pn,ie⟩))) ⟨p,_,rfl,Z9.of Zq,_,_,rfl,rfl,_,_,rfl,rfl,Zm.one (Yj.up (Ya hp) _ _ ie.noL de)⟩ (t13.lay fe hp)
    ·refine ⟨_,rfl,l,4,rfl,t1.feed,by decide,by decide,fun many H2 m0 m4 t2 => ?_⟩
     have t12:=t1.trans t2
     refine ⟨_,rfl,many,rfl,by omega,by omega,fun Dd fp sx hD => ?_⟩
     have nD:=t12.feed.ne hD
     have hD0:=t12.free fe hD
     refine comp_range (n:=many.toNat) (fun i ys σ H5 => ∃ (es:List D) (o:Option V),σ = [o,some (.ref l),some (.int (d' + 1:Nat))]∧(∀ e ∈ es,Itm Gd (d' + 1) e)∧es.length = i∧Zm K H5 es ys∧Ye l H H5∧H5 Dd = some (.lst ys))
      ⟨[],_,rfl,(fun x mx => (List.not_mem_nil mx).elim),rfl,rfl,t12.put nD hD0,Zq⟩ ?_ ?_ ?_
     ·rintro i ys σ H5 hi ⟨es,o,rfl,ie,le,ae,t5,h5⟩
      exact h5
     ·rintro i ys σ H5 hi ⟨es,o,rfl,ie,le,ae,t5,h5⟩
      refine nameT ?_
      refine ⟨_,rfl,_,rfl,_,_,rfl,rfl,l, ?_,t5.feed,fun r e H6 ir dr t6 => ?_⟩
      ·rw [← ed]; rfl
      have h6:=t6.keep _ _ nD h5
      refine ⟨h6, ?_,es ++ [e],_,rfl, ?_, ?_,Zm.append (Zm.up ((t6.up t5.feed).trans (up_set h6)) _ _ (Itm.noLs ie) ae) (Zm.one (Yj.up (up_set h6) _ _ ir.noL dr)),(t5.trans t6).put nD hD0,Zq⟩
      ·rw [← ae.length]; exact Y7 (by omega)
      ·intro x mx
       rcases List.mem_append.mp mx with mx | mx
       ·exact ie x mx
       ·rw [List.mem_singleton.mp mx]; exact ir
      ·rw [List.length_append,List.length_singleton]; omega
     ·rintro ys σ5 H5 ⟨es,o5,rfl,ie,le,ae,t5,h5⟩
      have ly:=ae.length
      have l3:es.length ≤ 3:=by omega
      refine ⟨_,rfl,_,_,rfl,rfl,_,rfl, ?_⟩
      refine ite2 (fun c4 => ?_) (fun c4 => ?_)
      ·
       refine ⟨_,rfl,Dd,ys,rfl,.inl ⟨Yg.of h5,fun p1 hp1 => ?_⟩⟩
       refine ⟨(sz 2),fun p hp => ?_⟩
       have t6:=t5.lay (o:=.tup ys) fe hp1
       refine q _ (.tup [.str "row",.tup es]) _ (.inr (.inr (.inr (.inl ⟨es,rfl,l3,ie⟩)))) ⟨p,_,rfl,Z9.of Zq,Zm.two rfl ⟨p1,ys,rfl,Ya hp _ _ (Z9.of Zq),Zm.up ((Ya hp1).trans (Ya hp)) _ _ (Itm.noLs ie) ae⟩⟩ (t6.lay fe hp)
      ·refine ⟨_,rfl,_,_,rfl,rfl,_,rfl, ?_⟩
       refine ite2 (fun c5 => ?_) (fun c5 => ?_)
       ·
        refine ⟨_,rfl,many,rfl,by omega,by omega,fun D2 fp2 sx2 hD2 => ?_⟩
        have nD2:=t5.feed.ne hD2
        have hD20:=t5.free fe hD2
        refine comp_range (n:=many.toNat) (fun i zs σ H7 => ∃ (ss:List Str) (o:Option V),σ = [o,some (.ref l)]∧zs = ss.map V.str∧ss.length = i∧(∀ x ∈ ss,nameOk x)∧Ye l H5 H7∧H7 D2 = some (.lst zs))
         ⟨[],_,rfl,rfl,rfl,(fun x mx => (List.not_mem_nil mx).elim),(Ye.refl t5.feed).put nD2 hD2,Zq⟩ ?_ ?_ ?_
        ·rintro i zs σ H7 hi ⟨ss,o,rfl,rfl,ls,ps,t7,h7⟩
         exact h7
        ·rintro i zs σ H7 hi ⟨ss,o,rfl,rfl,ls,ps,t7,h7⟩
         refine nameT ?_
         refine ⟨_,rfl,l,rfl,t7.feed,fun x H8 px t8 => ?_⟩
         refine ⟨t8.keep _ _ nD2 h7, ?_,ss ++ [x],_,rfl, ?_, ?_, ?_,(t7.trans t8).put nD2 hD2,Zq⟩
         ·rw [List.length_map]; exact Y7 (by omega)
         ·rw [List.map_append]; rfl
         ·rw [List.length_append,List.length_singleton]; omega
         ·intro y my
          rcases List.mem_append.mp my with my | my
          ·exact ps y my
          ·rw [List.mem_singleton.mp my]; exact px
        ·rintro zs σ7 H7 ⟨ss,o7,rfl,rfl,ls,ps,t7,h7⟩
         refine ⟨D2,ss.map Sum.inr,rfl,Yg.of (by rw [h7,List.map_map]; rfl), ?_,fun S us hS nu mu lu => ?_⟩
         ·rw [List.length_map]; show ss.length + 1 < scanBound; exact Nat.lt_of_le_of_lt (show ss.length + 1 ≤ 10 by omega) (by decide)
         obtain ⟨zs,rfl⟩:=all_inr (ss:=ss) fun x mx => (mu x).mp mx
         have lz:zs.length ≤ ss.length:=by simpa using lu
         refine ⟨S,zs,rfl,Zq,by omega,fun L ns hL pm sd => ?_⟩
         have t8:=t7.lay (o:=SetHO P w S (zs.map Sum.inr)) t5.feed hS
         have t9:=t8.lay (o:=.lst (ns.map V.str)) t5.feed hL
         have h9:Zo (Zo H7 S (SetHO P w S (zs.map Sum.inr))) L (.lst (ns.map V.str)) Dd = some (.lst ys):=t9.keep _ _ nD h5
         have a9:=Zm.up (K:=K) (t9.up t5.feed) es ys (Itm.noLs ie) ae
         have ln:ns.length ≤ es.length:=by rw [pm.length_eq]; omega
         refine ⟨_,rfl,_,rfl,L,Dd,_,_,rfl,Yg.of Zq,Yg.of h9,fun Z as H10 hZ s10 h10 at10 => ?_⟩
         have a10:Zm K H10 (Yb (ns.map D.str) (es.take ns.length)) (as.map V.ref):=by
          have:=Zm.pairs (K:=K) at10 (areS ns) (Zm.up s10.up _ _ (Itm.noLs ie) a9)
          rw [pairs_take,List.length_map] at this
          exact this
         refine ⟨Z,_,rfl,.inl ⟨Yg.of h10,fun p1 hp1 => ?_⟩⟩
         refine ⟨(sz 2),fun p hp => ?_⟩
         have t10:=(t5.trans t9).same s10
         have t11:=t10.lay (o:=.tup (as.map V.ref)) fe hp1
         have ie':∀ e ∈ es.take ns.length,Itm Gd (d' + 1) e:=fun e me => ie e (List.mem_of_mem_take me)
         have np:noLs (Yb (ns.map D.str) (es.take ns.length)) = true:=noLs_pairs (fun d m => by obtain ⟨x,_,rfl⟩:=List.mem_map.mp m; rfl) fun e m => (ie' e m).noL
         refine q _ (.tup [.str "map",.tup (Yb (ns.map D.str) (es.take ns.length))]) _ (.inr (.inr (.inr (.inr (.inl ⟨ns,es.take ns.length,rfl, ?_, ?_,⟨fun x mx => ?_, ?_⟩,ie'⟩))))) ⟨p,_,rfl,Z9.of Zq,Zm.two rfl ⟨p1,_,rfl,Ya hp _ _ (Z9.of Zq),Zm.up ((Ya hp1).trans (Ya hp)) _ _ np a10⟩⟩ (t11.lay fe hp)
         ·rw [List.length_take]; omega
         ·rw [List.length_take]; omega
         ·obtain ⟨y,my,ey⟩:=List.mem_map.mp ((mu (Sum.inr x)).mp (List.mem_map.mpr ⟨x,pm.mem_iff.mp mx,rfl⟩))
          cases ey
          exact ps x my
         ·exact sortedS_adj sd (pm.nodup_iff.mpr (nodup_inr nu))
       ·
        refine ⟨_,rfl,many,rfl,by omega,by omega,fun D2 fp2 sx2 hD2 => ?_⟩
        have nD2:=t5.feed.ne hD2
        have hD20:=t5.free fe hD2
        refine comp_range (n:=many.toNat) (fun i zs σ H7 => ∃ (ss:List Int) (o:Option V),σ = [o,some (.ref l)]∧zs = ss.map V.int∧ss.length = i∧(∀ x ∈ ss,1 ≤ x∧x ≤ 999)∧Ye l H5 H7∧H7 D2 = some (.lst zs))
         ⟨[],_,rfl,rfl,rfl,(fun x mx => (List.not_mem_nil mx).elim),(Ye.refl t5.feed).put nD2 hD2,Zq⟩ ?_ ?_ ?_
        ·rintro i zs σ H7 hi ⟨ss,o,rfl,rfl,ls,ps,t7,h7⟩
         exact h7
        ·rintro i zs σ H7 hi ⟨ss,o,rfl,rfl,ls,ps,t7,h7⟩
         refine nameT ?_
         refine ⟨_,rfl,l,rfl,t7.feed,fun x H8 px t8 => ?_⟩
         refine ⟨t8.keep _ _ nD2 h7, ?_,ss ++ [x],_,rfl, ?_, ?_, ?_,(t7.trans t8).put nD2 hD2,Zq⟩
         ·rw [List.length_map]; exact Y7 (by omega)
         ·rw [List.map_append]; rfl
         ·rw [List.length_append,List.length_singleton]; omega
         ·intro y my
          rcases List.mem_append.mp my with my | my
          ·exact ps y my
          ·rw [List.mem_singleton.mp my]; exact px
        ·rintro zs σ7 H7 ⟨ss,o7,rfl,rfl,ls,ps,t7,h7⟩
         refine ⟨D2,ss.map Sum.inl,rfl,Yg.of (by rw [h7,List.map_map]; rfl), ?_,fun S us hS nu mu lu => ?_⟩
         ·rw [List.length_map]; show ss.length + 1 < scanBound; exact Nat.lt_of_le_of_lt (show ss.length + 1 ≤ 10 by omega) (by decide)
         obtain ⟨zs,rfl⟩:=all_inl (ss:=ss) fun x mx => (mu x).mp mx
         have lz:zs.length ≤ ss.length:=by simpa using lu
         refine ⟨S,zs,rfl,Zq,by omega,fun L ns hL pm sd => ?_⟩
         have t8:=t7.lay (o:=SetHO P w S (zs.map Sum.inl)) t5.feed hS
         have t9:=t8.lay (o:=.lst (ns.map V.int)) t5.feed hL
         have h9:Zo (Zo H7 S (SetHO P w S (zs.map Sum.inl))) L (.lst (ns.map V.int)) Dd = some (.lst ys):=t9.keep _ _ nD h5
         have a9:=Zm.up (K:=K) (t9.up t5.feed) es ys (Itm.noLs ie) ae
         have ln:ns.length ≤ es.length:=by rw [pm.length_eq]; omega
         refine ⟨_,rfl,_,rfl,L,Dd,_,_,rfl,Yg.of Zq,Yg.of h9,fun Z as H10 hZ s10 h10 at10 => ?_⟩
         have a10:Zm K H10 (Yb (ns.map D.int) (es.take ns.length)) (as.map V.ref):=by
          have:=Zm.pairs (K:=K) at10 (areI ns) (Zm.up s10.up _ _ (Itm.noLs ie) a9)
          rw [pairs_take,List.length_map] at this
          exact this
         refine ⟨Z,_,rfl,.inl ⟨Yg.of h10,fun p1 hp1 => ?_⟩⟩
         refine ⟨(sz 2),fun p hp => ?_⟩
         have t10:=(t5.trans t9).same s10
         have t11:=t10.lay (o:=.tup (as.map V.ref)) fe hp1
         have ie':∀ e ∈ es.take ns.length,Itm Gd (d' + 1) e:=fun e me => ie e (List.mem_of_mem_take me)
         have np:noLs (Yb (ns.map D.int) (es.take ns.length)) = true:=noLs_pairs (fun d m => by obtain ⟨x,_,rfl⟩:=List.mem_map.mp m; rfl) fun e m => (ie' e m).noL
         refine q _ (.tup [.str "rec",.tup (Yb (ns.map D.int) (es.take ns.length))]) _ (.inr (.inr (.inr (.inr (.inr ⟨ns,es.take ns.length,rfl, ?_, ?_,⟨fun x mx => ?_, ?_⟩,ie'⟩))))) ⟨p,_,rfl,Z9.of Zq,Zm.two rfl ⟨p1,_,rfl,Ya hp _ _ (Z9.of Zq),Zm.up ((Ya hp1).trans (Ya hp)) _ _ np a10⟩⟩ (t11.lay fe hp)
         ·rw [List.length_take]; omega
         ·rw [List.length_take]; omega
         ·obtain ⟨y,my,ey⟩:=List.mem_map.mp ((mu (Sum.inl x)).mp (List.mem_map.mpr ⟨x,pm.mem_iff.mp mx,rfl⟩))
          cases ey
          exact ps x my
         ·exact sortedI_adj sd (pm.nodup_iff.mpr (nodup_inl nu))
end
end K07
namespace K03
def Lf:Nat→Int→List Int
 | 0,n => [n]
 | k + 1,n => if 128 ≤ n then (n % 128 + 128) :: Lf k (n / 128) else [n]
theorem Lf_small (k:Nat) {n:Int} (h:n < 128):Lf k n = [n]:=by
 cases k with
 | zero => rfl
 | succ k => simp only [Lf]; rw [if_neg (by omega)]
theorem Lf_big (k:Nat) {n:Int} (h:128 ≤ n):Lf (k + 1) n = (n % 128 + 128) :: Lf k (n / 128):=by
 simp only [Lf]; rw [if_pos h]
theorem pow_step (k:Nat):(128:Int) ^ (k + 1 + 1) = 128 * 128 ^ (k + 1):=by rw [Int.pow_succ (128:Int) (k + 1),Int.mul_comm]
theorem div_lt {n:Int} {k:Nat} (h:n < 128 ^ (k + 1 + 1)):n / 128 < 128 ^ (k + 1):=by
 rw [pow_step] at h
 generalize (128:Int) ^ (k + 1) = p at h ⊢
 omega
theorem more {n:Int} {k:Nat} (h:128 ≤ n) (h2:n < 128 ^ (k + 1)):∃ j,k = j + 1:=by
 cases k with
 | zero => simp at h2; omega
 | succ k => exact ⟨k,rfl⟩
theorem Lf_len:∀ (k:Nat) (n:Int),(Lf k n).length ≤ k + 1
 | 0,n => by simp [Lf]
 | k + 1,n => by
  simp only [Lf]
  split
  ·have:=Lf_len k (n / 128)
   simp only [List.length_cons]; omega
  ·simp
theorem p20:(128:Int) ^ (19 + 1) = 1393796574908163946345982392040522594123776:=by decide
end K03
namespace K07
open PySem PySem.Spec PyProof.Rows L2 K01
inductive Lb where
 | no | key (x:Str) | num (n:Int)
inductive IT where
 | whole (n:Int) | text (x:Str) | arm (n:Int) (e:IT) | lst (s:Nat) (ls:List Lb) (es:List IT)
def srt:Nat→Str
 | 0 => "row"
 | 1 => "map"
 | _ => "rec"
def prtD:Lb→D→D
 | .no,d => d
 | .key x,d => .tup [.str x,d]
 | .num n,d => .tup [.int n,d]
def Vl:List Lb→List D→List D
 | l :: ls,d :: ds => prtD l d :: Vl ls ds
 | _,_ => []
mutual
def toD:IT→D
 | .whole n => .tup [.str "whole",.int n]
 | .text x => .tup [.str "text",.str x]
 | .arm n e => .tup [.str "arm",.int n,toD e]
 | .lst s ls es => .tup [.str (srt s),.tup (Vl ls (toDs es))]
def toDs:List IT→List D
 | [] => []
 | e :: es => toD e :: toDs es
end
def codes (x:Str):List Int:=x.cps.toList.map fun c:Nat => (c:Int)
def Lg (n:Int):List Int:=K03.Lf 19 n
def fold (n:Int):Int:=if 0 ≤ n then 2 * n else -2 * n - 1
def sgB (x:Str):List Int:=Lg x.length ++ codes x
def lbB:Lb→List Int
 | .no => []
 | .key x => sgB x
 | .num n => Lg n
mutual
def Z8:IT→List Int
 | .whole n => 0 :: Lg (fold n)
 | .text x => 1 :: sgB x
 | .arm n e => 5 :: (Lg n ++ Z8 e)
 | .lst s ls es => ((s:Int) + 2) :: (Lg (Yy ls es).length ++ Yy ls es)
def Yy:List Lb→List IT→List Int
 | l :: ls,e :: es => lbB l ++ Z8 e ++ Yy ls es
 | _,_ => []
end
mutual
def dpI:IT→Nat
 | .whole _ => 1
 | .text _ => 1
 | .arm _ e => dpI e + 1
 | .lst _ _ es => dpIs es + 1
def dpIs:List IT→Nat
 | [] => 0
 | e :: es => max (dpI e) (dpIs es)
end
theorem dpI_mem:∀ {es:List IT} {e:IT},e ∈ es→dpI e ≤ dpIs es
 | a :: es,e,m => by
  rcases List.mem_cons.mp m with rfl | m
  ·simp only [dpIs]; omega
  ·have:=dpI_mem m
   simp only [dpIs]; omega
def GdL:Nat→List Lb→Prop
 | 0,ls => ∀ l ∈ ls,l = .no
 | 1,ls => ∃ ks:List Str,ls = ks.map Lb.key∧(∀ x ∈ ks,nameOk x)∧adj ltS ks
 | _,ls => ∃ ks:List Int,ls = ks.map Lb.num∧(∀ n ∈ ks,1 ≤ n∧n ≤ 999)∧ks.Pairwise (· < ·)
mutual
def GdI:IT→Prop
 | .whole n => -1000000000000000000 ≤ n∧n ≤ 1000000000000000000
 | .text x => textOk x
 | .arm n e => 1 ≤ n∧n ≤ 999∧GdI e
 | .lst s ls es => s ≤ 2∧ls.length = es.length∧GdL s ls∧GdIs es
def GdIs:List IT→Prop
 | [] => True
 | e :: es => GdI e∧GdIs es
end
theorem GdIs_all:∀ {es:List IT},GdIs es ↔ ∀ e ∈ es,GdI e
 | [] => ⟨fun _ t m => (List.not_mem_nil m).elim,fun _ => trivial⟩
 | a :: ts => by
  constructor
  ·rintro ⟨h1,h2⟩ t m
   rcases List.mem_cons.mp m with rfl | m
   ·exact h1
   ·exact GdIs_all.mp h2 t m
  ·intro h
   exact ⟨h a List.mem_cons_self,GdIs_all.mpr fun t m => h t (List.mem_cons_of_mem _ m)⟩
theorem Vk:∀ es:List IT,toDs es = es.map toD
 | [] => rfl
 | d :: ds => by simp only [toDs,List.map_cons,Vk ds]
theorem prtDs_len:∀ {ls:List Lb} {ds:List D},ls.length = ds.length→(Vl ls ds).length = ds.length
 | [],[],_ => rfl
 | l :: ls,d :: ds,h => by simp only [Vl,List.length_cons,prtDs_len (Nat.succ.inj h)]
mutual
theorem Yf:∀ it:IT,noL (toD it) = true
 | .whole _ => rfl
 | .text _ => rfl
 | .arm n e => by simp only [toD,noL,noLs,Bool.true_and,Bool.and_true]; exact Yf e
 | .lst s ls es => by
  simp only [toD,noL,noLs,Bool.true_and,Bool.and_true]
  exact prts_noL ls es
theorem prts_noL:∀ (ls:List Lb) (es:List IT),noLs (Vl ls (toDs es)) = true
 | [],_ => by simp [Vl,noLs]
 | _ :: _,[] => by simp [toDs,Vl,noLs]
 | l :: ls,e :: es => by
  simp only [toDs,Vl,noLs,Bool.and_eq_true]
  refine ⟨?_,prts_noL ls es⟩
  cases l with
  | no => exact Yf e
  | key x => simp only [prtD,noL,noLs,Bool.true_and,Bool.and_true]; exact Yf e
  | num n => simp only [prtD,noL,noLs,Bool.true_and,Bool.and_true]; exact Yf e
end
theorem isD2 {K:PySem.W.Frag} {H:Hp} {a b:D} {v:V} (h:Yj K H (.tup [a,b]) v):∃ p x y,v = .ref p∧Z9 K H p [x,y]∧Yj K H a x∧Yj K H b y:=by
 obtain ⟨p,vs,rfl,q,x,r,rfl,i1,y,r2,rfl,i2,e⟩:=h
 have e':r2 = []:=e
 subst e'
 exact ⟨p,x,y,rfl,q,i1,i2⟩
theorem isD3 {K:PySem.W.Frag} {H:Hp} {a b c:D} {v:V} (h:Yj K H (.tup [a,b,c]) v):∃ p x y z,v = .ref p∧Z9 K H p [x,y,z]∧Yj K H a x∧Yj K H b y∧Yj K H c z:=by
 obtain ⟨p,vs,rfl,q,x,r,rfl,i1,y,r2,rfl,i2,z,r3,rfl,i3,e⟩:=h
 have e':r3 = []:=e
 subst e'
 exact ⟨p,x,y,z,rfl,q,i1,i2,i3⟩
theorem Lg_len (n:Int):(Lg n).length ≤ 20:=K03.Lf_len 19 n
theorem lt20 {n:Int} (h:n ≤ 10000000000000000000):n < 128 ^ (19 + 1):=by rw [K03.p20]; omega
theorem fold_nn (n:Int):0 ≤ fold n:=by unfold fold; split <;> omega
theorem fold_le {n:Int} (h1:-1000000000000000000 ≤ n) (h2:n ≤ 1000000000000000000):fold n ≤ 2000000000000000000:=by unfold fold; split <;> omega
theorem itm_list {k:Nat} {P:IT→Prop}:∀ {es:List D},(∀ e ∈ es,∃ it,toD it = e∧P it)→∃ its:List IT,its.map toD = es∧∀ i ∈ its,P i
 | [],_ => ⟨[],rfl,fun _ m => (List.not_mem_nil m).elim⟩
 | e :: es,h => by
  obtain ⟨i,e1,p1⟩:=h e List.mem_cons_self
  obtain ⟨is,e2,p2⟩:=itm_list (k:=k) (P:=P) (es:=es) fun x m => h x (List.mem_cons_of_mem _ m)
  refine ⟨i :: is,by simp [e1,e2],fun x m => ?_⟩
  rcases List.mem_cons.mp m with rfl | m
  ·exact p1
  ·exact p2 x m
def lnB:Nat→Nat
 | 0 => 0
 | k + 1 => 300 + 3 * lnB k
theorem prt_no:∀ (n:Nat) (ds:List D),ds.length = n→Vl (List.replicate n Lb.no) ds = ds
 | 0,[],_ => rfl
 | n + 1,d :: ds,h => by simp only [List.replicate_succ,Vl,prtD,prt_no n ds (Nat.succ.inj h)]
theorem prt_key:∀ (ks:List Str) (ds:List D),Vl (ks.map Lb.key) ds = Yb (ks.map D.str) ds
 | [],_ => by simp [Vl,Yb]
 | k :: ks,[] => by simp [Vl,Yb]
 | k :: ks,d :: ds => by simp only [List.map_cons,Vl,prtD,Yb,prt_key ks ds]
theorem prt_num:∀ (ks:List Int) (ds:List D),Vl (ks.map Lb.num) ds = Yb (ks.map D.int) ds
 | [],_ => by simp [Vl,Yb]
 | k :: ks,[] => by simp [Vl,Yb]
 | k :: ks,d :: ds => by simp only [List.map_cons,Vl,prtD,Yb,prt_num ks ds]
theorem Vy (x:Str):(codes x).length = x.length:=by unfold codes; rw [List.length_map]; exact Array.length_toList
theorem sgB_len (x:Str):(sgB x).length ≤ 20 + x.length:=by
 unfold sgB; rw [List.length_append,Vy]; have:=Lg_len x.length; omega
def lbOk:Lb→Prop
 | .no => True
 | .key x => x.length ≤ 8
 | .num _ => True
theorem lbB_len {l:Lb} (h:lbOk l):(lbB l).length ≤ 28:=by
 cases l with
 | no => exact Nat.zero_le _
 | key x => have:=sgB_len x; have h':x.length ≤ 8:=h; show (sgB x).length ≤ 28; omega
 | num n => have:=Lg_len n; show (Lg n).length ≤ 28; omega
theorem byIs_len {n:Nat}:∀ {ls:List Lb} {es:List IT},(∀ l ∈ ls,lbOk l)→(∀ e ∈ es,(Z8 e).length ≤ n)→(Yy ls es).length ≤ es.length * (28 + n)
 | [],es,_,_ => by simp [Yy]
 | _ :: _,[],_,_ => by simp [Yy]
 | l :: ls,e :: es,h1,h2 => by
  have a:=lbB_len (h1 l List.mem_cons_self)
  have b:=h2 e List.mem_cons_self
  have c:=byIs_len (ls:=ls) (es:=es) (fun x m => h1 x (List.mem_cons_of_mem _ m)) fun x m => h2 x (List.mem_cons_of_mem _ m)
  simp only [Yy,List.length_append,List.length_cons,Nat.succ_mul]; omega
theorem dpIs_le:∀ {es:List IT} {n:Nat},(∀ t ∈ es,dpI t ≤ n)→dpIs es ≤ n
 | [],n,_ => Nat.zero_le _
 | t :: ts,n,h => by
  have h1:=h t List.mem_cons_self
  have h2:=dpIs_le (es:=ts) fun x m => h x (List.mem_cons_of_mem _ m)
  simp only [dpIs]; omega
structure NiceI (it:IT) (k:Nat):Prop where
 gd:GdI it
 dp:dpI it ≤ k
 ln:(Z8 it).length ≤ lnB k
theorem lst_nice {k:Nat} {s:Nat} {ls:List Lb} {es:List IT} (hs:s ≤ 2) (hl:ls.length = es.length) (h3:es.length ≤ 3) (g:GdL s ls) (lo:∀ l ∈ ls,lbOk l) (h:∀ e ∈ es,NiceI e k):NiceI (.lst s ls es) (k + 1):=by
 refine ⟨⟨hs,hl,g,GdIs_all.mpr fun e m => (h e m).gd⟩, ?_, ?_⟩
 ·have:=dpIs_le (es:=es) fun e m => (h e m).dp
  simp only [dpI]; omega
 ·have a:=byIs_len (n:=lnB k) lo fun e m => (h e m).ln
  have b:es.length * (28 + lnB k) ≤ 3 * (28 + lnB k):=Nat.mul_le_mul_right _ h3
  have c:=Lg_len (Yy ls es).length
  simp only [Z8,List.length_cons,List.length_append,lnB]; omega
theorem itm_it:∀ (k:Nat) (d:D),Itm Gd k d→∃ it,toD it = d∧NiceI it k
 | 0,_,h => h.elim
 | k + 1,d,h => by
  rcases h with ⟨n,rfl,g⟩ | ⟨x,rfl,g⟩ | ⟨n,e,rfl,g,i⟩ | ⟨es,rfl,l,i⟩ | ⟨ks,es,rfl,l1,l2,g,i⟩ | ⟨ks,es,rfl,l1,l2,g,i⟩
  ·refine ⟨.whole n,rfl,g,by simp only [dpI]; omega, ?_⟩
   have:=Lg_len (fold n)
   simp only [Z8,List.length_cons,lnB]; omega
  ·refine ⟨.text x,rfl,g,by simp only [dpI]; omega, ?_⟩
   have:=sgB_len x
   have:=g.1
   simp only [Z8,List.length_cons,lnB]; omega
  ·obtain ⟨it,e1,ni⟩:=itm_it k e i
   refine ⟨.arm n it,by simp only [toD,e1],⟨g.1,g.2,ni.gd⟩,by have:=ni.dp; simp only [dpI]; omega, ?_⟩
   have:=Lg_len n
   have:=ni.ln
   simp only [Z8,List.length_cons,List.length_append,lnB]; omega
  ·obtain ⟨its,e1,ni⟩:=itm_list (k:=k) (P:=fun it => NiceI it k) fun e m => itm_it k e (i e m)
   have el:its.length = es.length:=by rw [← e1,List.length_map]
   refine ⟨.lst 0 (List.replicate es.length .no) its, ?_,lst_nice (by decide) (by rw [List.length_replicate,el]) (by omega) (fun l m => List.eq_of_mem_replicate m) (fun l m => by rw [List.eq_of_mem_replicate m]; trivial) ni⟩
   simp only [toD,srt]
   rw [Vk,e1,prt_no _ _ rfl]
  ·obtain ⟨its,e1,ni⟩:=itm_list (k:=k) (P:=fun it => NiceI it k) fun e m => itm_it k e (i e m)
   have el:its.length = es.length:=by rw [← e1,List.length_map]
   refine ⟨.lst 1 (ks.map Lb.key) its, ?_,lst_nice (by decide) (by rw [List.length_map,el]; exact l1) (by omega) ⟨ks,rfl,g.1,g.2⟩ (fun l m => ?_) ni⟩
   ·simp only [toD,srt]
    rw [Vk,e1,prt_key]
   ·obtain ⟨x,mx,rfl⟩:=List.mem_map.mp m
    exact (g.1 x mx).2.1
  ·obtain ⟨its,e1,ni⟩:=itm_list (k:=k) (P:=fun it => NiceI it k) fun e m => itm_it k e (i e m)
   have el:its.length = es.length:=by rw [← e1,List.length_map]
   refine ⟨.lst 2 (ks.map Lb.num) its, ?_,lst_nice (by decide) (by rw [List.length_map,el]; exact l1) (by omega) ⟨ks,rfl,g.1,g.2⟩ (fun l m => ?_) ni⟩
   ·simp only [toD,srt]
    rw [Vk,e1,prt_num]
   ·obtain ⟨x,mx,rfl⟩:=List.mem_map.mp m
    trivial
end K07
namespace K07
open PySem PySem.Spec PyProof.Rows L2 K01 K03
abbrev s_law_long:Stmt:=top 56
abbrev N_law_long:List Str:=["_law_n","_law_found"]
theorem sc_law_long:Ze N_law_long ["_law_n"] (Zk s_law_long):=by trivial
def small {n:Nat} (h:n ≤ 1000):n ≤ sizeLine:=Nat.le_of_lt (Y7 h)
def spLong:Sp:=fun vs H Q _ => ∃ n:Int,vs = [.int n]∧0 ≤ n∧n < 128 ^ (19 + 1)∧∀ (r:Addr) (H':Hp),Zf H H'→H' r = some (.tup ((Lf 19 n).map V.int))→Q (.ref r) H'
def m0:L2.St→Nat
 | some (.int m) :: _ => m.toNat
 | _ => 0
structure Bk (b:Addr) (H H':Hp) (zs:List V):Prop where
 keep:∀ x o,x ≠ b→H x = some o→H' x = some o
 at':H' b = some (.lst zs)
theorem Bk.then {b:Addr} {H H1 H2:Hp} {zs:List V} (k:Bk b H H1 zs) (s:Zf H1 H2):Bk b H H2 zs:=⟨fun x o n h => s _ _ (k.keep x o n h),s _ _ k.at'⟩
theorem Bk.trans {b:Addr} {H H1 H2:Hp} {ys zs:List V} (k:Bk b H H1 ys) (j:Bk b H1 H2 zs):Bk b H H2 zs:=⟨fun x o n h => j.keep x o n (k.keep x o n h),j.at'⟩
theorem Bk.up {K:PySem.W.Frag} {b:Addr} {H H':Hp} {ys zs:List V} (k:Bk b H H' zs) (h:H b = some (.lst ys)):Up K H H':=fun c xs q => by
 have ne:∀ u,H c = some u→(∀ ys,u ≠ .lst ys)→c ≠ b:=fun u e n z => by
  rw [z,h] at e
  cases e
  exact n _ rfl
 rcases q with (q | ⟨u,q⟩) | q
 ·exact .inl (.inl (k.keep _ _ (ne _ q fun _ z => nomatch z) q))
 ·exact .inl (.inr ⟨u,k.keep _ _ (ne _ q fun _ z => nomatch z) q⟩)
 ·exact .inr q
def bv (l:List Int):List V:=l.map V.int
theorem bv_app (a b:List Int):bv (a ++ b) = bv a ++ bv b:=List.map_append
theorem Y2 (a:List Int):(bv a).length = a.length:=List.length_map _
structure SortsOk (K:PySem.W.Frag) (a:Addr):Prop where
 at':∃ (o:Obj) (its:Array Value) (n:Nat),K.lookup a = some o∧o.cls = .type "tuple" ∧ o.dict = none∧o.data = .seq its n∧its.size ≤ sizeLine∧Z1 ((["whole","text","row","map","rec","arm"]:List Str).map V.str) its.toList
theorem SortsOk.sq {K:PySem.W.Frag} {a:Addr} (s:SortsOk K a) (H:Hp):Z9 K H a ((["whole","text","row","map","rec","arm"]:List Str).map V.str):=by
 obtain ⟨o,its,n,h1,h2,h3,h4,h5,h6⟩:=s.at'
 exact .inr ⟨o,its,n,h1,h2,h4,h5,h6⟩
theorem SortsOk.ty {K:PySem.W.Frag} {a:Addr} (s:SortsOk K a) (H:Hp):tyV K "tuple" (.ref a) H:=by
 obtain ⟨o,its,n,h1,h2,h3,h4,h5,h6⟩:=s.at'
 exact .inr (.inl ⟨rfl,o,h1,h2,h3⟩)
section
variable {P:Program} {w:World} {K:PySem.W.Frag} {mg:Str→Option Value} {base:Heap} {f:Addr} {fd:FuncData}
theorem ok_llong (F:Fun K "_law_long" "_law_long" s_law_long f fd) (m:Bn mg):Yd P w K mg base CX0 1 f fd ["_law_n"] spLong:=by
 refine F.ok sc_law_long (fun vs H Q E h => ?_) (fun cdv A outer s H vs Q E hr h => ?_)
 ·obtain ⟨n,rfl,_⟩:=h
  rfl
 obtain ⟨n,rfl,h0,h1,q⟩:=h
 refine ⟨_,(@Zj _ _ _ _ _ (@Zg _ 1 _ _ _ _ _ sc_law_long.nd rfl (by trivial) (@Yl _ _ _ _ (Zy (@Zb _ _ _ _ _ _ _ _ op_mod (pv 0) Zz) Zx rfl)) rfl (by trivial)) (@Zj _ _ _ _ _ (@ps_while _ _ _ _ _ _ PassesOwn.never (@Zs _ _ _ _ _ _ _ _ op_gt (pv 0) Zz (Z0 _)) (@Zj _ _ _ _ _ (@ps_asg _ _ _ _ _ _ (@Zb _ _ _ _ _ _ _ _ Z4 (@Zc _ _ _ _ _ _ _ Yv (pv 1) (@pe_un _ _ _ _ _ _ un_neg Zz) (fun _ _ => rfl)) Zz) (@pg_sub _ _ _ _ _ _ _ (pv 1) (@pe_un _ _ _ _ _ _ un_neg Zz) set_list (by trivial)) (by trivial) (by trivial) (by trivial)) (@Zj _ _ _ _ _ (@Zg _ 0 _ _ _ _ _ sc_law_long.nd rfl (by trivial) (@Zb _ _ _ _ _ _ _ _ op_fdiv (pv 0) Zz) rfl (by trivial)) (@Zv _ _ _ (@ps_expr _ _ _ _ (@pe_bm _ _ _ _ _ _ _ _ _ _ _ _ PySem.F.plainAttrs_list PySem.F.slot_list_append PySem.F.type_list_append mt_append (pv 1) (Zy (@Zb _ _ _ _ _ _ _ _ op_mod (pv 0) Zz) Zx rfl) (by trivial) (by trivial) (by trivial) (by trivial) (by trivial)) rfl))))) (@Zv _ _ _ (@Zr _ _ _ _ (@Yu _ _ _ _ _ _ _ _ _ Y1 rfl m.tuple b_tuple (Zy (pv 1) Zx rfl) (by trivial) (by trivial) (by trivial) (by trivial)))))), ?_⟩
 refine ⟨_,rfl,_,_,rfl,rfl,(by show (0:Int) < 128; decide),(sz 1),fun p hp => ?_⟩
 refine while_by (fun σ H1 => ∃ (m:Int) (k:Nat) (fs:List Int),σ = [some (.int m),some (.ref p)]∧H1 = Zo H p (.lst ((fs ++ [m % 128]).map V.int))∧0 ≤ m∧m < 128 ^ (k + 1)∧k + fs.length = 19∧fs ++ Lf k m = Lf 19 n)
  (fun σ _ => m0 σ) ⟨n,19,[],rfl,rfl,h0,h1,rfl,rfl⟩ ?_ ?_
 ·rintro σ H1 ⟨m,k,fs,rfl,rfl,hm,hk,hl,e⟩
  refine ⟨_,rfl,_,_,rfl,rfl,_,rfl, ?_⟩
  refine ite2 (fun c => ?_) (fun c => ?_)
  ·have c':128 ≤ m:=by
    have:(127:Int) < m:=of_decide_eq_true c
    omega
   obtain ⟨j,rfl⟩:=more c' hk
   have last:atI ((fs ++ [m % 128]).map V.int) (-1) = some (.int (m % 128)):=by
    rw [List.map_append]
    exact atI_last _ _
   have lix:ixN ((fs ++ [m % 128]).map V.int).length (-1) = some fs.length:=by
    rw [List.length_map,List.length_append,List.length_singleton]
    unfold ixN
    rw [if_neg (by decide),if_pos (by omega)]
    congr 1
    omega
   refine ⟨_,rfl,_,rfl,p,_,_,_,rfl,rfl,Yg.of Zq,last,_,_,rfl,rfl,_,rfl,_,rfl,p,_,_,_,rfl,rfl,Zq,lix, ?_⟩
   refine ⟨_,rfl,_,_,rfl,rfl,⟨by decide,by decide⟩, ?_⟩
   refine ⟨_,rfl,.inl ⟨rfl,_,Yg.of Zq⟩,_,rfl,_,_,rfl,rfl,(by show (0:Int) < 128; decide),p,_,_,rfl,rfl,Zq, ?_, ?_⟩
   ·rw [List.length_set,List.length_map,List.length_append,List.length_singleton]; exact Y7 (by omega)
   ·have e9:(((fs ++ [m % 128]).map V.int).set fs.length (V.int (m % 128 + 128))) = (fs ++ [m % 128 + 128]).map V.int:=by
     rw [List.map_append,List.map_append]
     have q9:=List.set_append_right (s:=fs.map V.int) (t:=[V.int (m % 128)]) (i:=fs.length) (x:=V.int (m % 128 + 128)) (by rw [List.length_map]; exact Nat.le_refl _)
     rw [List.length_map,Nat.sub_self] at q9
     exact q9
    refine ⟨⟨m / 128,j,fs ++ [m % 128 + 128],rfl, ?_,by omega,div_lt hk, ?_, ?_⟩, ?_⟩
    ·rw [upd_upd,upd_upd,e9,List.map_append (l₁:=fs ++ [m % 128 + 128])]
     rfl
    ·rw [List.length_append,List.length_singleton]; omega
    ·rw [← e,Lf_big j c',List.append_assoc]
     rfl
    ·show (m / 128).toNat < m.toNat
     omega
  ·have c':m < 128:=by
    have:¬ (127:Int) < m:=of_decide_eq_false (Bool.eq_false_iff.mpr c)
    omega
   refine ⟨_,rfl,p,_,rfl,.inl ⟨Yg.of Zq,fun l hl' => ?_⟩⟩
   have s1:Zf H (Zo H p (.lst ((fs ++ [m % 128]).map V.int))):=(Zf.refl H).put hp
   refine q l _ (s1.put (s1.free hl')) ?_
   have e8:m % 128 = m:=by omega
   rw [Zq, ← e,Lf_small k c',e8]
 ·rintro σ H1 Q1 Q2 hq ⟨v,e,i,j,e1,e2,b,eb,q1⟩
  exact ⟨v,e,i,j,e1,e2,b,eb,hq _ _ q1⟩
theorem ord_comp {H:Hp} {x:Str} {D:Addr} {fin:Hp→Prop} {o:Option V} (hl:x.cps.size ≤ 1000000) (hD:H D = none) (hf:∀ H6,Zf H H6→H6 D = some (.lst (bv (codes x)))→fin H6) :
  ∃ W:Nat→Nat→List V→L2.St→Hp→Prop,(∃ m,W 0 m [] [o] (Zo H D (.lst [])))∧CompW (Its x) (gName 0) tAlways (tCB (fun xs H Q => ∃ x,xs = [.str x]∧x.length = 1∧Q (.int (x.cps.getD 0 0:Nat)) H) (Vq (tVar 0) tNil)) D W fin:=by
 refine comp_str (x:=x) (fun i ys σ H5 => (∃ o',σ = [o'])∧ys = bv ((codes x).take i)∧Zf H H5∧H5 D = some (.lst ys)) ⟨⟨_,rfl⟩,rfl,(Zf.refl H).put hD,Zq⟩ ?_ ?_ ?_
 ·rintro i ys σ H5 hi ⟨_,_,s5,h5⟩
  exact h5
 ·rintro i c ys σ H5 hx ⟨⟨o',rfl⟩,rfl,s5,h5⟩
  have et:(codes x)[i]? = some (c:Int):=by
   unfold codes
   rw [List.getElem?_map]
   have:x.cps.toList[i]? = some c:=by simpa using hx
   rw [this]; rfl
  refine goAlways ⟨_,rfl,⟨#[c]⟩,rfl,rfl,h5, ?_,⟨_,rfl⟩, ?_,s5.put hD,Zq⟩
  ·rw [Y2,List.length_take,Vy]; exact Nat.lt_of_le_of_lt (Nat.le_trans (Nat.min_le_right _ _) hl) (by decide)
  ·rw [take_more et,bv_app]; rfl
 ·rintro ys σ H5 ⟨_,rfl,s5,h5⟩
  refine hf H5 s5 ?_
  rw [h5,List.take_of_length_le]
  rw [Vy]; exact Nat.le_refl _
end
def LbS (s:Nat) (l:Lb):Prop:=(s = 0∧l = .no) ∨ (s = 1∧∃ x,l = .key x∧nameOk x) ∨ (s = 2∧∃ n,l = .num n∧1 ≤ n∧n ≤ 999)
theorem GdL.at {s:Nat} {ls:List Lb} (hs:s ≤ 2) (g:GdL s ls):∀ l ∈ ls,LbS s l:=by
 intro l m
 match s,hs,g with
 | 0,_,g => exact .inl ⟨rfl,g l m⟩
 | 1,_,⟨ks,e,h,_⟩ =>
  rw [e] at m
  obtain ⟨x,mx,rfl⟩:=List.mem_map.mp m
  exact .inr (.inl ⟨rfl,x,rfl,h x mx⟩)
 | 2,_,⟨ks,e,h,_⟩ =>
  rw [e] at m
  obtain ⟨x,mx,rfl⟩:=List.mem_map.mp m
  exact .inr (.inr ⟨rfl,x,rfl,h x mx⟩)
theorem prtDs_get:∀ {ls:List Lb} {ds:List D} {j:Nat} {l:Lb} {d:D},ls[j]? = some l→ds[j]? = some d→(Vl ls ds)[j]? = some (prtD l d)
 | [],_,j,l,d,h,_ => by simp at h
 | _ :: _,[],j,l,d,_,h => by simp at h
 | l0 :: ls,d0 :: ds,0,l,d,h1,h2 => by
  simp at h1 h2
  subst h1 h2
  rfl
 | l0 :: ls,d0 :: ds,j + 1,l,d,h1,h2 => by
  simp only [Vl,List.getElem?_cons_succ]
  exact prtDs_get (by simpa using h1) (by simpa using h2)
theorem srt_ne (s:Nat):(srt s == "whole") = false∧(srt s == "text") = false∧(srt s == "arm") = false:=by
 match s with
 | 0 => decide +kernel
 | 1 => decide +kernel
 | _ + 2 => exact (by decide +kernel:(("rec" : Str) == "whole") = false∧(("rec" : Str) == "text") = false∧(("rec" : Str) == "arm") = false)
theorem vs_ne {x z:Str} (h:(x == z) = false):decide (V.str x = V.str z) = false:=by
 rw [decide_eq_false_iff_not]
 intro e
 injection e with e
 rw [e,beq_self_eq_true] at h
 cases h
theorem areD_got {K:PySem.W.Frag} {H:Hp} {ds:List D} {vs:List V} {i:Nat} {v:V} (h:Zm K H ds vs) (e:vs[i]? = some v):∃ d,ds[i]? = some d∧Yj K H d v:=by
 have hi:=(List.getElem?_eq_some_iff.mp e).1
 have hi':i < ds.length:=by rw [h.length]; exact hi
 obtain ⟨v',e1,q⟩:=h.get (List.getElem?_eq_getElem hi')
 rw [e] at e1; cases e1
 exact ⟨_,List.getElem?_eq_getElem hi',q⟩
abbrev s_law_key:Stmt:=top 57
abbrev N_law_key:List Str:=["_law_key_here"]
theorem sc_law_key:Ze N_law_key ["_law_key_here"] (Zk s_law_key):=by trivial
abbrev s_law_packed:Stmt:=top 58
abbrev N_law_packed:List Str:=["_law_item_here","_law_rest_here","_law_part"]
theorem Vg:Ze N_law_packed ["_law_item_here"] (Zk s_law_packed):=by trivial
def lbV:Lb→V
 | .no => .non
 | .key x => .str x
 | .num n => .int n
def spKey (K:PySem.W.Frag):Sp:=fun vs H Q _ => ∃ l,vs = [lbV l]∧((∃ x,l = .key x∧x.length ≤ 1000) ∨ ∃ n,l = .num n∧0 ≤ n∧n ≤ 1000000)∧∀ (r:Addr) (H':Hp),Zf H H'→Z9 K H' r (bv (lbB l))→Q (.ref r) H'
def spLPack (K:PySem.W.Frag):Nat→Sp
 | 0 => fun _ _ _ _ => False
 | n + 1 => fun vs H Q _ => ∃ v it,vs = [v]∧Yj K H (toD it) v∧GdI it∧dpI it ≤ n + 1∧(Z8 it).length ≤ 1000000∧∀ (r:Addr) (H':Hp),Zf H H'→Z9 K H' r (bv (Z8 it))→Q (.ref r) H'
theorem byIs_take:∀ {ls:List Lb} {es:List IT} {j:Nat} {l:Lb} {e:IT},ls[j]? = some l→es[j]? = some e→Yy (ls.take (j + 1)) (es.take (j + 1)) = Yy (ls.take j) (es.take j) ++ lbB l ++ Z8 e
 | [],_,j,l,e,h,_ => by simp at h
 | _ :: _,[],j,l,e,_,h => by simp at h
 | l0 :: ls,e0 :: es,0,l,e,h1,h2 => by
  simp at h1 h2
  subst h1 h2
  simp [Yy]
 | l0 :: ls,e0 :: es,j + 1,l,e,h1,h2 => by
  have ih:=byIs_take (ls:=ls) (es:=es) (j:=j) (by simpa using h1) (by simpa using h2)
  rw [List.take_succ_cons,List.take_succ_cons,List.take_succ_cons,List.take_succ_cons]
  simp only [Yy]
  rw [ih]
  simp only [List.append_assoc]
theorem byIs_take_le:∀ (ls:List Lb) (es:List IT) (j:Nat),(Yy (ls.take j) (es.take j)).length ≤ (Yy ls es).length
 | [],_,j => by simp [Yy]
 | _ :: _,[],j => by cases j <;> simp [Yy]
 | l :: ls,e :: es,0 => by simp [Yy]
 | l :: ls,e :: es,j + 1 => by
  have:=byIs_take_le ls es j
  rw [List.take_succ_cons,List.take_succ_cons]
  simp only [Yy,List.length_append]; omega
theorem sIndex3 {s:Nat} (hs:s ≤ 2):(["row","map","rec"]:List Str)[s]? = some (srt s)∧∀ m,m < s→(["row","map","rec"]:List Str)[m]? ≠ some (srt s):=by
 match s,hs with
 | 0,_ => exact ⟨by decide +kernel,by decide +kernel⟩
 | 1,_ => exact ⟨by decide +kernel,by decide +kernel⟩
 | 2,_ => exact ⟨by decide +kernel,by decide +kernel⟩
section
variable {P:Program} {w:World} {K:PySem.W.Frag} {mg:Str→Option Value} {base:Heap} {f:Addr} {fd:FuncData} {aS:Addr}
theorem ok_law_key (F:Fun K "_law_key" "_law_key" s_law_key f fd) (m:Bn mg) (g_law_long:Fn P w K mg base 1 "_law_long" ["_law_n"] spLong):Yd P w K mg base CX0 2 f fd ["_law_key_here"] (spKey K):=by
 refine F.ok sc_law_key (fun vs H Q E h => ?_) (fun cdv A outer s H vs Q E hr h => ?_)
 ·obtain ⟨l,rfl,_⟩:=h
  rfl
 obtain ⟨l,rfl,hl,q⟩:=h
 refine ⟨_,(@Zj _ _ _ _ _ (@Yk _ _ _ _ _ _ _ _ (@pt_val _ _ _ (@Zp _ _ _ _ _ _ _ _ _ call_isi rfl m.isinstance Vo (Zy (pv 0) (Zy (@pe_bltnT _ _ _ _ rfl m.str b_str (by decide) (by decide)) Zx rfl) rfl) (by decide) (by decide) rfl rfl) (by intro _; rfl)) (@Zv _ _ _ (@Zr _ _ _ _ (@Zb _ _ _ _ _ _ _ _ Vv (@Zw _ _ _ _ _ _ _ _ _ _ g_law_long hr.m rfl (Zy (@Zp _ _ _ _ _ _ _ _ _ call_len_str rfl m.len b_len (Zy (pv 0) Zx rfl) (by decide) (by decide) rfl rfl) Zx rfl) (by decide) rfl rfl) (@Yu _ _ _ _ _ _ _ _ _ Y1 rfl m.tuple b_tuple (Zy (@Y6 _ N_law_key (Zk s_law_key) ["_law_sign"] [none] _ _ _ _ _ _ _ _ _ _ rfl (@pi_str _ _ _ _ (pv 0)) ⟨rfl,rfl,by decide +kernel,by decide +kernel⟩ (fun _ _ _ => (@Zh _ 0 _ _ (show List.Nodup (["_law_sign"]:List Str) from by decide +kernel) rfl (Or.inl rfl) (by trivial))) (fun _ _ _ => Vz) (fun _ _ _ => (@Zp _ _ _ _ _ _ _ _ _ call_ord rfl m.ord b_ord (Zy (pv 0) Zx rfl) (by decide) (by decide) rfl rfl)) (by trivial)) Zx rfl) (by trivial) (by trivial) (by trivial) (by trivial))))) Zi) (@Zv _ _ _ (@Zr _ _ _ _ (@Zw _ _ _ _ _ _ _ _ _ _ g_law_long hr.m rfl (Zy (pv 0) Zx rfl) (by decide) rfl rfl)))), ?_⟩
 rcases hl with ⟨x,rfl,hx⟩ | ⟨n,rfl,h0,h1⟩
 ·have ll:=Lg_len x.length
  have lc:=Vy x
  refine ⟨_,rfl,_,"str",_,true,rfl,TyOf.str x,rfl,_,rfl,iteY rfl ?_⟩
  refine ⟨_,rfl,x,rfl,Nat.le_trans hx (by decide),_,rfl,by omega,lt20 (by omega),fun r H1 s1 h1 => ?_⟩
  refine ⟨_,rfl,x,rfl,fun D fp sx hD => ord_comp (Nat.le_trans hx (by decide)) hD fun H2 s2 h2 => ?_⟩
  refine ⟨D,_,rfl,.inl ⟨Yg.of h2,fun l hl => ?_⟩⟩
  have s3:=Zf.lay (o:=.tup (bv (codes x))) hl
  refine ⟨r,l,_,_,rfl,rfl,Z9.of ((s2.trans s3) _ _ h1),Z9.of Zq, ?_,fun p H' s' h' => q p H' ((s1.trans (s2.trans s3)).trans s') ?_⟩
  ·rw [List.length_map,Y2]; exact Nat.le_trans (show _ ≤ 3000 by have:(Lf 19 x.length).length ≤ 20:=ll; omega) (by decide)
  ·have e:bv (lbB (.key x)) = (Lf 19 (x.length:Int)).map V.int ++ bv (codes x):=bv_app _ _
   rw [e]
   exact h'
 ·refine ⟨_,rfl,_,"str",_,false,rfl,TyOf.int n,rfl,_,rfl,Yr rfl ?_⟩
  exact ⟨_,rfl,n,rfl,h0,lt20 (by omega),fun r H1 s1 h1 => q r H1 s1 (Z9.of h1)⟩
theorem ok_law_packed (F:Fun K "_law_packed" "_law_packed" s_law_packed f fd) (m:Bn mg) (bd:Binds K fd ["_law_item_here"] []) (mf:mg "_law_packed" = some (.ref f)) (g_law_long:Fn P w K mg base 1 "_law_long" ["_law_n"] spLong)
  (g_law_key:Fn P w K mg base 2 "_law_key" ["_law_key_here"] (spKey K)):∀ n,Yd P w K mg base CX0 (n + 3) f fd ["_law_item_here"] (spLPack K n)
 | 0 => ⟨fun vs H Q E h => h.elim,fun A outer s H args us vs Q E _ _ _ _ h => h.elim⟩
 | n + 1 => by
  have g_law_packed:Fn P w K mg base (n + 3) "_law_packed" ["_law_item_here"] (spLPack K n):=⟨f,fd,ok_law_packed F m bd mf g_law_long g_law_key n,bd,F.kp,mf⟩
  refine F.ok Vg (fun vs H Q E h => ?_) (fun cdv A outer s H vs Q E hr h => ?_)
  ·obtain ⟨v,it,rfl,_⟩:=h
   rfl
  obtain ⟨v,it,rfl,hd,gd,dp,lb,q⟩:=h
  refine ⟨_,(@Zj _ _ _ _ _ (@Yk _ _ _ _ _ _ _ _ (@Zs _ _ _ _ _ _ _ _ Y3 (@Zc _ _ _ _ _ _ _ Zl (pv 0) Zz (fun _ _ => rfl)) Zd (Z0 _)) (@Zv _ _ _ (@Zr _ _ _ _ (@Zb _ _ _ _ _ _ _ _ Vv (@Z5 _ _ _ _ _ (Zy Zz Zx rfl)) (@Zw _ _ _ _ _ _ _ _ _ _ g_law_long hr.m rfl (Zy (@Zc _ _ _ _ _ _ _ Yv (@Yl _ _ _ _ (Zy (@Zb _ _ _ _ _ _ _ _ op_mul Zz (@Zc _ _ _ _ _ _ _ Zl (pv 0) Zz (fun _ _ => rfl))) (Zy (@Zb _ _ _ _ _ _ _ _ op_sub (@Zb _ _ _ _ _ _ _ _ op_mul (@pe_un _ _ _ _ _ _ un_neg Zz) (@Zc _ _ _ _ _ _ _ Zl (pv 0) Zz (fun _ _ => rfl))) Zz) Zx rfl) rfl)) (@Yu _ _ _ _ _ _ _ _ _ call_int1 rfl m.int b_int (Zy (@pe_cmpR _ _ _ _ _ _ _ _ op_lt (@Zc _ _ _ _ _ _ _ Zl (pv 0) Zz (fun _ _ => rfl)) Zz (Z0 _)) Zx rfl) (by trivial) (by trivial) (by trivial) (by trivial)) (fun _ _ => rfl)) Zx rfl) (by decide) rfl rfl)))) Zi) (@Zj _ _ _ _ _ (@Yk _ _ _ _ _ _ _ _ (@Zs _ _ _ _ _ _ _ _ Y3 (@Zc _ _ _ _ _ _ _ Zl (pv 0) Zz (fun _ _ => rfl)) Zd (Z0 _)) (@Zv _ _ _ (@Zr _ _ _ _ (@Zb _ _ _ _ _ _ _ _ Vv (@Z5 _ _ _ _ _ (Zy Zz Zx rfl)) (@Zw _ _ _ _ _ _ _ _ _ _ g_law_key hr.m rfl (Zy (@Zc _ _ _ _ _ _ _ Zl (pv 0) Zz (fun _ _ => rfl)) Zx rfl) (by decide) rfl rfl)))) Zi) (@Zj _ _ _ _ _ (@Yk _ _ _ _ _ _ _ _ (@Zs _ _ _ _ _ _ _ _ Y3 (@Zc _ _ _ _ _ _ _ Zl (pv 0) Zz (fun _ _ => rfl)) Zd (Z0 _)) (@Zv _ _ _ (@Zr _ _ _ _ (@Zb _ _ _ _ _ _ _ _ Vv (@Zb _ _ _ _ _ _ _ _ Vv (@Z5 _ _ _ _ _ (Zy Zz Zx rfl)) (@Zw _ _ _ _ _ _ _ _ _ _ g_law_long hr.m rfl (Zy (@Zc _ _ _ _ _ _ _ Zl (pv 0) Zz (fun _ _ => rfl)) Zx rfl) (by decide) rfl rfl)) (@Zw _ _ _ _ _ _ _ _ _ _ g_law_packed hr.m rfl (Zy (@Zc _ _ _ _ _ _ _ Zl (pv 0) Zz (fun _ _ => rfl)) Zx rfl) (by decide) rfl rfl)))) Zi) (@Zj _ _ _ _ _ (@Zg _ 1 _ _ _ _ _ Vg.nd rfl (by trivial) (@Z5 _ _ _ _ _ Zx) rfl (by trivial)) (@Zj _ _ _ _ _ (@ps_for _ _ _ _ _ _ _ _ PassesOwn.never rfl (@pi_tup _ _ _ _ (@Zc _ _ _ _ _ _ _ Zl (pv 0) Zz (fun _ _ => rfl))) (@Zh _ 2 _ _ Vg.nd rfl (Or.inl rfl) (by trivial)) (@Zv _ _ _ (@Yk _ _ _ _ _ _ _ _ (@Zs _ _ _ _ _ _ _ _ Y3 (@Zc _ _ _ _ _ _ _ Zl (pv 0) Zz (fun _ _ => rfl)) Zd (Z0 _)) (@Zv _ _ _ (@Zg _ 1 _ _ _ _ _ Vg.nd rfl (by trivial) (@Zb _ _ _ _ _ _ _ _ Vv (pv 1) (@Zw _ _ _ _ _ _ _ _ _ _ g_law_packed hr.m rfl (Zy (pv 2) Zx rfl) (by decide) rfl rfl)) rfl (by trivial))) (@Zv _ _ _ (@Zg _ 1 _ _ _ _ _ Vg.nd rfl (by trivial) (@Zb _ _ _ _ _ _ _ _ Vv (@Zb _ _ _ _ _ _ _ _ Vv (pv 1) (@Zw _ _ _ _ _ _ _ _ _ _ g_law_key hr.m rfl (Zy (@Zc _ _ _ _ _ _ _ Zl (pv 2) Zz (fun _ _ => rfl)) Zx rfl) (by decide) rfl rfl)) (@Zw _ _ _ _ _ _ _ _ _ _ g_law_packed hr.m rfl (Zy (@Zc _ _ _ _ _ _ _ Zl (pv 2) Zz (fun _ _ => rfl)) Zx rfl) (by decide) rfl rfl)) rfl (by trivial))))) (by trivial)) (@Zv _ _ _ (@Zr _ _ _ _ (@Zb _ _ _ _ _ _ _ _ Vv (@Zb _ _ _ _ _ _ _ _ Vv (@Z5 _ _ _ _ _ (Zy (@Zb _ _ _ _ _ _ _ _ Z4 (@pe_bm _ _ _ _ _ _ _ _ _ _ _ _ PySem.F.plainAttrs_list PySem.F.slot_list_index PySem.F.type_list_index mt_indexL (@Yl _ _ _ _ (Zy Zd (Zy Zd (Zy Zd Zx rfl) rfl) rfl)) (Zy (@Zc _ _ _ _ _ _ _ Zl (pv 0) Zz (fun _ _ => rfl)) Zx rfl) (by trivial) (by trivial) (by trivial) (by trivial) (by trivial)) Zz) Zx rfl)) (@Zw _ _ _ _ _ _ _ _ _ _ g_law_long hr.m rfl (Zy (@Zp _ _ _ _ _ _ _ _ _ Z2 rfl m.len b_len (Zy (pv 1) Zx rfl) (by decide) (by decide) rfl rfl) Zx rfl) (by decide) rfl rfl)) (pv 1))))))))), ?_⟩
  have small:∀ m:Nat,m ≤ 3000000→m ≤ sizeLine:=fun m h => Nat.le_trans h (by decide)
  cases it with
  | whole k =>
   obtain ⟨p,x,y,rfl,hp,rfl,rfl⟩:=isD2 hd
   have ll:=Lg_len (fold k)
   refine ⟨_,rfl,p,_,_,_,rfl,rfl,hp,rfl,rfl,_,rfl,iteY (by decide +kernel) ?_⟩
   refine ⟨(sz 1),fun p0 hp0 => ?_⟩
   have s0:Zf H (Zo H p0 (.tup [.int 0])):=Zf.lay hp0
   have hp1:=s0.up _ _ hp
   refine ⟨_,rfl,p,_,_,_,rfl,rfl,hp1,rfl,_,_,rfl,rfl,.inl ⟨by decide,by decide⟩, ?_⟩
   refine ⟨_,rfl,_,rfl,p,_,_,_,rfl,rfl,hp1,rfl,_,_,rfl,rfl,.inl ⟨by decide,by decide⟩,_,_,rfl,rfl, ?_⟩
   refine ⟨(sz 2),fun l hl => ?_⟩
   have s1:=s0.trans (Zf.lay (o:=.lst [.int (2 * k),.int (-2 * k - 1)]) hl)
   have hp2:=s1.up _ _ hp
   refine ⟨_,rfl,p,_,_,_,rfl,rfl,hp2,rfl,_,_,rfl,rfl,.inr ⟨_,rfl, ?_⟩⟩
   refine ⟨l,_,_,.int (fold k),rfl,rfl,Yg.of Zq, ?_, ?_⟩
   ·by_cases hk:k < 0
    ·have e:fold k = -2 * k - 1:=by unfold fold; rw [if_neg (by omega)]
     rw [decide_eq_true hk,e]
     rfl
    ·have e:fold k = 2 * k:=by unfold fold; rw [if_pos (by omega)]
     rw [decide_eq_false hk,e]
     rfl
   refine ⟨_,rfl,fold_nn k,lt20 (Int.le_trans (fold_le gd.1 gd.2) (by decide)),fun r H2 s2 h2 => ?_⟩
   refine ⟨p0,r,_,_,rfl,rfl,Z9.of (s2 _ _ ((Zf.lay hl) _ _ Zq)),Z9.of h2, ?_,fun p' H' s' h' => q p' H' ((s1.trans s2).trans s') h'⟩
   rw [List.length_map,List.length_singleton]; exact small _ (by have:(Lf 19 (fold k)).length ≤ 20:=ll; omega)
  | text x =>
   obtain ⟨p,vx,y,rfl,hp,rfl,rfl⟩:=isD2 hd
   have ll:=sgB_len x
   have lx:=gd.1
   refine ⟨_,rfl,p,_,_,_,rfl,rfl,hp,rfl,rfl,_,rfl,Yr (by decide +kernel) ?_⟩
   refine ⟨_,rfl,p,_,_,_,rfl,rfl,hp,rfl,rfl,_,rfl,iteY (by decide +kernel) ?_⟩
   refine ⟨(sz 1),fun p0 hp0 => ?_⟩
   have s0:Zf H (Zo H p0 (.tup [.int 1])):=Zf.lay hp0
   refine ⟨_,rfl,p,_,_,_,rfl,rfl,s0.up _ _ hp,rfl,.key x,rfl,.inl ⟨x,rfl,by omega⟩,fun r H2 s2 h2 => ?_⟩
   refine ⟨p0,r,_,_,rfl,rfl,Z9.of (s2 _ _ Zq),h2, ?_,fun p' H' s' h' => q p' H' ((s0.trans s2).trans s') h'⟩
   rw [Y2,List.length_singleton]; exact small _ (by show 1 + (sgB x).length ≤ _; omega)
  | arm k e =>
   obtain ⟨p,vx,y,z,rfl,hp,rfl,rfl,hz⟩:=isD3 hd
   have ll:=Lg_len k
   have lb':(Z8 (.arm k e)).length = (Lg k).length + (Z8 e).length + 1:=by simp only [Z8,List.length_cons,List.length_append]
   have de:dpI e + 1 ≤ n + 1:=dp
   have e1:1 ≤ dpI e:=by cases e <;> simp only [dpI] <;> omega
   obtain ⟨n',rfl⟩:∃ n',n = n' + 1:=⟨n - 1,by omega⟩
   refine ⟨_,rfl,p,_,_,_,rfl,rfl,hp,rfl,rfl,_,rfl,Yr (by decide +kernel) ?_⟩
   refine ⟨_,rfl,p,_,_,_,rfl,rfl,hp,rfl,rfl,_,rfl,Yr (by decide +kernel) ?_⟩
   refine ⟨_,rfl,p,_,_,_,rfl,rfl,hp,rfl,rfl,_,rfl,iteY (by decide +kernel) ?_⟩
   refine ⟨(sz 1),fun p0 hp0 => ?_⟩
   have s0:Zf H (Zo H p0 (.tup [.int 5])):=Zf.lay hp0
   refine ⟨_,rfl,p,_,_,_,rfl,rfl,s0.up _ _ hp,rfl,k,rfl,by have:=gd.1; omega,lt20 (by have:=gd.2.1; omega),fun r H2 s2 h2 => ?_⟩
   refine ⟨p0,r,_,_,rfl,rfl,Z9.of (s2 _ _ Zq),Z9.of h2, ?_,fun p1 H3 s3 h3 => ?_⟩
   ·rw [List.length_map,List.length_singleton]; exact small _ (by have:(Lf 19 k).length ≤ 20:=ll; omega)
   have s03:=(s0.trans s2).trans s3
   refine ⟨_,rfl,p,_,_,_,rfl,rfl,s03.up _ _ hp,rfl,z,e,rfl,Yj.up s03.up _ _ (Yf e) hz,gd.2.2,by omega,by omega,fun r4 H4 s4 h4 => ?_⟩
   refine ⟨p1,r4,_,_,rfl,rfl,s4.up _ _ h3,h4, ?_,fun p' H' s' h' => q p' H' ((s03.trans s4).trans s') ?_⟩
   ·rw [List.length_append,List.length_map,List.length_singleton,Y2]; exact small _ (by have:(Lf 19 k).length ≤ 20:=ll; omega)
   ·have e9:bv (Z8 (.arm k e)) = [V.int 5] ++ (Lf 19 k).map V.int ++ bv (Z8 e):=by
     simp only [Z8,bv,List.map_cons,List.map_append,List.append_assoc]; rfl
    rw [e9]; exact h'
  | lst st ls es =>
   obtain ⟨hs,hl,gl,ge⟩:=gd
   obtain ⟨p,vx,y,rfl,hp,rfl,pp,ws,rfl,hpp,ar⟩:=isD2 hd
   obtain ⟨n1,n2,n3⟩:=srt_ne st
   have hlen:es.length = ws.length:=by rw [← ar.length,prtDs_len (by rw [Vk,List.length_map]; exact hl),Vk,List.length_map]
   have ll:=Lg_len (Yy ls es).length
   have lb':(Z8 (.lst st ls es)).length = (Lg (Yy ls es).length).length + (Yy ls es).length + 1:=by simp only [Z8,List.length_cons,List.length_append]
   refine ⟨_,rfl,p,_,_,_,rfl,rfl,hp,rfl,rfl,_,rfl,Yr (vs_ne n1) ?_⟩
   refine ⟨_,rfl,p,_,_,_,rfl,rfl,hp,rfl,rfl,_,rfl,Yr (vs_ne n2) ?_⟩
   refine ⟨_,rfl,p,_,_,_,rfl,rfl,hp,rfl,rfl,_,rfl,Yr (vs_ne n3) ?_⟩
   refine ⟨(sz 0),fun p0 hp0 => ?_⟩
   have s0:Zf H (Zo H p0 (.tup [])):=Zf.lay hp0
   refine ⟨_,rfl,p,_,_,_,rfl,rfl,s0.up _ _ hp,rfl,pp,rfl,⟨_,s0.up _ _ hpp⟩,for_tup (xs:=ws) (fun i σ H2 => (∃ o a,σ = [some (.ref p),some (.ref a),o]∧Z9 K H2 a (bv (Yy (ls.take i) (es.take i))))∧Zf H H2) ⟨⟨_,_,rfl,Z9.of Zq⟩,s0⟩ ?_ ?_ ?_⟩
   ·rintro i σ H2 hi ⟨_,k2⟩
    exact k2.up _ _ hpp
   ·rintro i x σ H2 hx ⟨⟨o,a,rfl,ha⟩,k2⟩
    have hi:i < ws.length:=(List.getElem?_eq_some_iff.mp hx).1
    have hje:i < es.length:=by omega
    have hjl:i < ls.length:=by omega
    obtain ⟨d,ed,id'⟩:=areD_got ar hx
    have el:ls[i]? = some ls[i]:=List.getElem?_eq_getElem hjl
    have ee:es[i]? = some es[i]:=List.getElem?_eq_getElem hje
    have ed2:=prtDs_get (ds:=toDs es) el (by rw [Vk,List.getElem?_map,ee]; rfl)
    rw [ed] at ed2
    cases ed2
    have ml:ls[i] ∈ ls:=List.getElem_mem hjl
    have me:es[i] ∈ es:=List.getElem_mem hje
    have tk:Yy (ls.take (i + 1)) (es.take (i + 1)) = Yy (ls.take i) (es.take i) ++ lbB ls[i] ++ Z8 es[i]:=byIs_take el ee
    have tkl:=byIs_take_le ls es (i + 1)
    generalize ls[i] = l at el ml id' ed tk
    generalize es[i] = e at ee me id' ed tk
    have hls:=gl.at hs l ml
    have gde:=GdIs_all.mp ge e me
    have dd:dpI e + 1 ≤ n + 1:=by have:=dpI_mem me; simp only [dpI] at dp; omega
    have e1:1 ≤ dpI e:=by cases e <;> simp only [dpI] <;> omega
    obtain ⟨n',rfl⟩:∃ n',n = n' + 1:=⟨n - 1,by omega⟩
    rw [tk] at tkl
    simp only [List.length_append] at tkl
    have idH:=Yj.up k2.up _ _ (noLs_mem (prts_noL ls es) (List.mem_of_getElem? ed)) id'
    refine ⟨_,rfl,p,_,_,_,rfl,rfl,k2.up _ _ hp,rfl,rfl,_,rfl, ?_⟩
    rcases hls with ⟨rfl,rfl⟩ | hls
    ·refine iteY (by decide +kernel) ⟨_,rfl,_,rfl,x,e,rfl,idH,gde,by omega,by omega,fun r H3 s3 h3 => ?_⟩
     refine ⟨a,r,_,_,rfl,rfl,s3.up _ _ ha,h3, ?_,fun p1 H4 s4 h4 => ⟨⟨_,p1,rfl, ?_⟩,(k2.trans s3).trans s4⟩⟩
     ·rw [Y2,Y2]; exact small _ (by omega)
     ·rw [tk,bv_app,bv_app]
      show Z9 K H4 p1 (bv (Yy (ls.take i) (es.take i)) ++ [] ++ bv (Z8 e))
      rw [List.append_nil]; exact h4
    ·have two:∃ x' e',prtD l (toD e) = .tup [x',toD e]∧(∀ v H,Yj K H x' v→v = lbV l)∧((∃ x,l = .key x∧x.length ≤ 1000) ∨ ∃ n,l = .num n∧0 ≤ n∧n ≤ 1000000)∧decide (V.str (srt st) = V.str "row") = e'∧e' = false:=by
      rcases hls with ⟨rfl,x',rfl,nx⟩ | ⟨rfl,n'',rfl,n0,n1⟩
      ·exact ⟨.str x',_,rfl,fun v H h => h,.inl ⟨x',rfl,by have:=nx.2.1; omega⟩,rfl,by decide +kernel⟩
      ·exact ⟨.int n'',_,rfl,fun v H h => h,.inr ⟨n'',rfl,by omega,by omega⟩,rfl,by decide +kernel⟩
     obtain ⟨x',e',ep,xv,lk,er,rfl⟩:=two
     rw [ep] at idH
     obtain ⟨q1,vx',vy',rfl,hq1,ix,iy⟩:=isD2 idH
     cases xv _ _ ix
     refine Yr er ⟨_,rfl,_,rfl,q1,_,_,_,rfl,rfl,hq1,rfl,l,rfl,lk,fun r H3 s3 h3 => ?_⟩
     refine ⟨a,r,_,_,rfl,rfl,s3.up _ _ ha,h3, ?_,fun p1 H4 s4 h4 => ?_⟩
     ·rw [Y2,Y2]; exact small _ (by omega)
     have s34:=s3.trans s4
     refine ⟨_,rfl,q1,_,_,_,rfl,rfl,s34.up _ _ hq1,rfl,vy',e,rfl,Yj.up s34.up _ _ (Yf e) iy,gde,by omega,by omega,fun r5 H5 s5 h5 => ?_⟩
     refine ⟨p1,r5,_,_,rfl,rfl,s5.up _ _ h4,h5, ?_,fun p2 H6 s6 h6 => ⟨⟨_,p2,rfl, ?_⟩,((k2.trans s34).trans s5).trans s6⟩⟩
     ·rw [List.length_append,Y2,Y2,Y2]; exact small _ (by omega)
     ·rw [tk,bv_app,bv_app]; exact h6
   ·rintro σ H2 ⟨⟨o,a,rfl,ha⟩,k2⟩
    rw [← hlen,List.take_length, ← hl,List.take_length] at ha
    refine ⟨(sz 3),fun l3 hl3 => ?_⟩
    have s3:=Zf.lay (o:=.lst [.str "row",.str "map",.str "rec"]) hl3
    have k3:=k2.trans s3
    refine ⟨.inl ⟨rfl,_,Yg.of Zq⟩,_,rfl,p,_,_,_,rfl,rfl,k3.up _ _ hp,rfl, ?_⟩
    refine ⟨l3,["row","map","rec"],srt st,st,rfl,rfl,Yg.of Zq,(sIndex3 hs).1,(sIndex3 hs).2,_,_,rfl,rfl, ?_⟩
    refine ⟨(sz 1),fun p4 hp4 => ?_⟩
    have s4:=Zf.lay (o:=.tup [.int ((st:Int) + 2)]) hp4
    have ha4:=(s3.trans s4).up (K:=K) _ _ ha
    refine ⟨_,rfl,a,_,rfl,.inr ha4,_,rfl,by omega,lt20 (by rw [Y2]; omega),fun r5 H5 s5 h5 => ?_⟩
    rw [Y2] at h5
    refine ⟨p4,r5,_,_,rfl,rfl,Z9.of (s5 _ _ Zq),Z9.of h5, ?_,fun p6 H6 s6 h6 => ?_⟩
    ·rw [List.length_map,List.length_singleton]; exact small _ (by have:(Lf 19 ((Yy ls es).length:Int)).length ≤ 20:=ll; omega)
    refine ⟨_,rfl,p6,a,_,_,rfl,rfl,h6,(s5.trans s6).up _ _ ha4, ?_,fun p' H' s' h' => q p' H' ((((k3.trans s4).trans s5).trans s6).trans s') ?_⟩
    ·rw [List.length_append,List.length_map,List.length_singleton,Y2]; exact small _ (by have:(Lf 19 ((Yy ls es).length:Int)).length ≤ 20:=ll; omega)
    ·have e9:bv (Z8 (.lst st ls es)) = [V.int ((st:Int) + 2)] ++ (Lf 19 ((Yy ls es).length:Int)).map V.int ++ bv (Yy ls es):=by
      simp only [Z8,bv,List.map_cons,List.map_append,List.append_assoc]; rfl
     rw [e9]; exact h'
end
abbrev s_behind_long:Stmt:=top 13
abbrev N_behind_long:List Str:=["file","at"]
theorem sc_behind_long:Ze N_behind_long ["file","at"] (Zk s_behind_long):=by trivial
abbrev s_long_at:Stmt:=top 14
abbrev N_long_at:List Str:=["file","at","n","figure"]
theorem sc_long_at:Ze N_long_at ["file","at"] (Zk s_long_at):=by trivial
abbrev s_behind_item:Stmt:=top 46
abbrev N_behind_item:List Str:=["file","at","behind"]
theorem sc_behind_item:Ze N_behind_item ["file","at"] (Zk s_behind_item):=by trivial
def Pre (bs:List Int) (a e:Nat) (xs:List Int):Prop:=(∃ rest,bs.drop a = xs ++ rest)∧a + xs.length ≤ e
theorem Pre.cons {bs:List Int} {a e:Nat} {x:Int} {xs:List Int} (p:Pre bs a e (x :: xs)):bs[a]? = some x∧a < e∧Pre bs (a + 1) e xs:=by
 obtain ⟨⟨rest,h⟩,l⟩:=p
 rw [List.length_cons] at l
 refine ⟨?_,by omega,⟨rest, ?_⟩,by omega⟩
 ·have:(bs.drop a)[0]? = some x:=by rw [h]; rfl
  rwa [List.getElem?_drop] at this
 ·rw [← List.drop_drop,h]; rfl
theorem bvAt {bs:List Int} {j:Nat} {x:Int} (h:bs[j]? = some x):(bv bs)[j]? = some (.int x):=by rw [bv,List.getElem?_map,h]; rfl
def unL (l:List Int):Int:=l.reverse.foldl (fun n b => n * 128 + b % 128) 0
theorem unL_cons (b:Int) (l:List Int):unL (b :: l) = unL l * 128 + b % 128:=by
 unfold unL
 rw [List.reverse_cons,List.foldl_append]
 rfl
theorem unL_Lf:∀ (k:Nat) (n:Int),0 ≤ n→n < 128 ^ (k + 1)→unL (Lf k n) = n:=by
 intro k
 induction k with
 | zero =>
  intro n h0 h1
  have h1:n < 128:=by simpa using h1
  rw [Lf_small 0 h1]
  show 0 * 128 + n % 128 = n
  omega
 | succ k ih =>
  intro n h0 h1
  by_cases c:128 ≤ n
  ·rw [Lf_big k c,unL_cons,ih (n / 128) (by omega) (div_lt h1)]
   omega
  ·rw [Lf_small (k + 1) (by omega)]
   show 0 * 128 + n % 128 = n
   omega
theorem foldr_bytes (l:List Int):∀ n:Int,0 ≤ n→0 ≤ l.foldl (fun n b => n * 128 + b % 128) n:=by
 induction l with
 | nil => intro n h; exact h
 | cons b l ih => intro n h; exact ih _ (by show 0 ≤ n * 128 + b % 128; omega)
theorem fold_take {l:List Int} {i:Nat} {b:Int} (h:l[i]? = some b):(l.take (i + 1)).foldl (fun n b => n * 128 + b % 128) (0:Int) = (l.take i).foldl (fun n b => n * 128 + b % 128) 0 * 128 + b % 128:=by
 have hi:i < l.length:=(List.getElem?_eq_some_iff.mp h).1
 rw [List.take_succ,h,List.foldl_append]
 rfl
theorem cut_nat (xs:List V) {a b:Nat} (h:a ≤ b) (hb:b ≤ xs.length):cutV xs (some (a:Int)) (some (b:Int)) = (xs.drop a).take (b - a):=by
 unfold cutV
 rw [HT.sIx_nat,HT.sIx_nat,Nat.min_eq_left hb,Nat.min_eq_left (Nat.le_trans h hb)]
theorem pre_cut {bs xs:List Int} {a e:Nat} (p:Pre bs a e xs) (he:a + xs.length ≤ bs.length):cutV (bv bs) (some (a:Int)) (some ((a + xs.length:Nat):Int)) = bv xs:=by
 obtain ⟨⟨r,h⟩,_⟩:=p
 rw [cut_nat _ (by omega) (by rw [Y2]; omega),bv, ← List.map_drop,h,List.map_append,show a + xs.length - a = (xs.map V.int).length by rw [List.length_map]; omega,List.take_left]
 rfl
theorem Pre.le {bs xs:List Int} {a e:Nat} (p:Pre bs a e xs) (hx:xs ≠ []):a + xs.length ≤ bs.length:=by
 obtain ⟨⟨r,h⟩,_⟩:=p
 have z:=congrArg List.length h
 rw [List.length_drop,List.length_append] at z
 have:1 ≤ xs.length:=by cases xs with
  | nil => exact absurd rfl hx
  | cons x xs => rw [List.length_cons]; omega
 omega
theorem Lf_ne (k:Nat) (n:Int):Lf k n ≠ []:=by
  cases k with
  | zero => unfold Lf; simp
  | succ k => by_cases c : 128 ≤ n
              · rw [Lf_big k c]; simp
              · rw [Lf_small _ (by omega)]; simp
def LgAt (bs:List Int) (at':Nat) (n:Int):Prop:=(∃ rest,bs.drop at' = Lg n ++ rest)∧0 ≤ n∧n ≤ 10000000000000000000
def spBL (K:PySem.W.Frag):Sp:=fun vs H Q _ => ∃ (a:Addr) (bs:List Int) (p:Nat) (n:Int),vs = [.ref a,.int p]∧Z9 K H a (bv bs)∧LgAt bs p n∧Q (.int ((p + (Lg n).length:Nat):Int)) H
def spLA (K:PySem.W.Frag):Sp:=fun vs H Q _ => ∃ (a:Addr) (bs:List Int) (p:Nat) (n:Int),vs = [.ref a,.int p]∧Z9 K H a (bv bs)∧LgAt bs p n∧∀ H',Zf H H'→Q (.int n) H'
section
variable {P:Program} {w:World} {K:PySem.W.Frag} {mg:Str→Option Value} {base:Heap} {f:Addr} {fd:FuncData}
theorem ok_bl (F:Fun K "behind_long" "behind_long" s_behind_long f fd):Yd P w K mg base CX0 1 f fd ["file","at"] (spBL K):=by
 refine F.ok sc_behind_long (fun vs H Q E h => ?_) (fun cdv A outer s H vs Q E hr h => ?_)
 ·obtain ⟨a,bs,p,n,rfl,_⟩:=h
  rfl
 obtain ⟨a,bs,p0,n,rfl,hS,⟨⟨rest,hx⟩,h0,h1⟩,q⟩:=h
 have hp:Pre bs p0 (p0 + (Lg n).length) (Lg n):=⟨⟨rest,hx⟩,Nat.le_refl _⟩
 refine ⟨_,(@Zj _ _ _ _ _ (@ps_while _ _ _ _ _ _ PassesOwn.never (@Zs _ _ _ _ _ _ _ _ op_ge (@Zc _ _ _ _ _ _ _ Zl (pv 0) (pv 1) (fun _ _ => rfl)) Zz (Z0 _)) (@Zv _ _ _ (@Zg _ 1 _ _ _ _ _ sc_behind_long.nd rfl (by trivial) (@Zb _ _ _ _ _ _ _ _ Z4 (pv 1) Zz) rfl (by trivial)))) (@Zv _ _ _ (@Zr _ _ _ _ (@Zb _ _ _ _ _ _ _ _ Z4 (pv 1) Zz)))), ?_⟩
 refine ⟨fun μ σ H1 => H1 = H∧∃ (p k:Nat) (x:Int),μ = p0 + (Lg n).length - p∧σ = [some (.ref a),some (.int (p:Int))]∧p + (Lf k x).length = p0 + (Lg n).length∧Pre bs p (p0 + (Lg n).length) (Lf k x)∧0 ≤ x∧x < 128 ^ (k + 1),
  ⟨_,rfl,p0,19,n,rfl,rfl,rfl,hp,h0,lt20 h1⟩, ?_⟩
 rintro μ σ H1 ⟨rfl,p,k,x,rfl,rfl,el,pr,x0,xk⟩
 have e1:(p:Int) + 1 = ((p + 1:Nat):Int):=by omega
 by_cases c:128 ≤ x
 ·obtain ⟨j,rfl⟩:=more c xk
  rw [Lf_big j c] at pr el
  obtain ⟨gb,lt,pr'⟩:=pr.cons
  rw [List.length_cons] at el
  refine ⟨_,rfl,_,rfl,a,_,_,_,rfl,rfl,hS,Z7 (bvAt gb),_,_,rfl,rfl,_,rfl,iteY (decide_eq_true (show (128:Int) ≤ x % 128 + 128 by omega)) ⟨fun σ' H' => ∃ m',m' < p0 + (Lg n).length - p∧_,fun σ' H' h => h, ?_⟩⟩
  refine ⟨_,rfl,_,_,rfl,rfl, ?_⟩
  refine ⟨p0 + (Lg n).length - (p + 1),by omega,rfl,p + 1,j,x / 128,rfl, ?_,by omega,pr',by omega,div_lt xk⟩
  show [some (V.ref a),some (V.int ((p:Int) + 1))] = _
  rw [e1]
 ·have c':x < 128:=by omega
  rw [Lf_small k c'] at pr el
  obtain ⟨gb,lt,_⟩:=pr.cons
  rw [List.length_singleton] at el
  refine ⟨_,rfl,_,rfl,a,_,_,_,rfl,rfl,hS,Z7 (bvAt gb),_,_,rfl,rfl,_,rfl,Yr (decide_eq_false (show ¬ (128:Int) ≤ x by omega)) ?_⟩
  refine ⟨_,rfl,_,_,rfl,rfl, ?_⟩
  show Q (.int ((p:Int) + 1)) H1
  rw [e1,el]
  exact q
theorem ok_la (F:Fun K "long_at" "long_at" s_long_at f fd) (m:Bn mg) (g_behind_long:Fn P w K mg base 1 "behind_long" ["file","at"] (spBL K)):Yd P w K mg base CX0 2 f fd ["file","at"] (spLA K):=by
 refine F.ok sc_long_at (fun vs H Q E h => ?_) (fun cdv A outer s H vs Q E hr h => ?_)
 ·obtain ⟨a,bs,p,n,rfl,_⟩:=h
  rfl
 obtain ⟨a,bs,p0,n,rfl,hS,la,q⟩:=h
 obtain ⟨⟨rest,hx⟩,h0,h1⟩:=id la
 have hp:Pre bs p0 (p0 + (Lg n).length) (Lg n):=⟨⟨rest,hx⟩,Nat.le_refl _⟩
 refine ⟨_,(@Zj _ _ _ _ _ (@Zg _ 2 _ _ _ _ _ sc_long_at.nd rfl (by trivial) Zz rfl (by trivial)) (@Zj _ _ _ _ _ (@ps_for _ _ _ _ _ _ _ _ PassesOwn.never rfl (@pi_rev _ _ _ _ _ _ rfl m.reversed (Zy (@pe_slice _ _ _ _ _ _ _ _ _ _ sl_tupG (pv 0) (@po_some _ _ _ (pv 1)) (@po_some _ _ _ (@Zw _ _ _ _ _ _ _ _ _ _ g_behind_long hr.m rfl (Zy (pv 0) (Zy (pv 1) Zx rfl) rfl) (by decide) rfl rfl))) Zx rfl) rfl rfl) (@Zh _ 3 _ _ sc_long_at.nd rfl (Or.inl rfl) (by trivial)) (@Zv _ _ _ (@Zg _ 2 _ _ _ _ _ sc_long_at.nd rfl (by trivial) (@Zb _ _ _ _ _ _ _ _ Z4 (@Zb _ _ _ _ _ _ _ _ op_mul (pv 2) Zz) (@Zb _ _ _ _ _ _ _ _ op_mod (pv 3) Zz)) rfl (by trivial))) (by trivial)) (@Zv _ _ _ (@Zr _ _ _ _ (pv 2))))), ?_⟩
 refine ⟨_,rfl,_,rfl,_,rfl,_,rfl,_,rfl,a,bs,p0,n,rfl,hS,la,_,rfl,a,_,rfl,hS,fun c H2 s2 hc => ?_⟩
 rw [pre_cut hp (hp.le (Lf_ne 19 n))] at hc
 refine ⟨c,_,rfl,hc,for_rev (xs:=bv (Lg n)) (fun i σ H3 => H3 = H2∧∃ o,σ = [some (.ref a),some (.int (p0:Int)),some (.int (((Lg n).reverse.take i).foldl (fun n b => n * 128 + b % 128) 0)),o]) ⟨rfl,_,rfl⟩ ?_ ?_ ?_⟩
 ·rintro i σ H3 hi ⟨rfl,_⟩
  exact hc
 ·rintro i x σ H3 hi ⟨rfl,o,rfl⟩
  rw [bv, ← List.map_reverse,List.getElem?_map] at hi
  obtain ⟨b,hb,rfl⟩:=Option.map_eq_some_iff.mp hi
  have nn:=foldr_bytes ((Lg n).reverse.take i) 0 (Int.le_refl _)
  refine ⟨_,rfl,_,_,rfl,rfl,.inr ⟨by decide,by decide⟩,_,rfl,_,_,rfl,rfl,(by show (0:Int) < 128; decide),_,_,rfl,rfl, ?_⟩
  refine ⟨rfl,some (.int b), ?_⟩
  rw [fold_take hb]
  rfl
 ·rintro σ H3 ⟨rfl,o,rfl⟩
  refine ⟨_,rfl, ?_⟩
  have e:((Lg n).reverse.take (bv (Lg n)).length).foldl (fun n b => n * 128 + b % 128) 0 = n:=by
   rw [Y2, ← List.length_reverse,List.take_length]
   exact unL_Lf 19 n h0 (lt20 h1)
  show Q (.int (((Lg n).reverse.take (bv (Lg n)).length).foldl (fun n b => n * 128 + b % 128) 0)) H3
  rw [e]
  exact q H3 s2
end
abbrev s_room_parts:Stmt:=top 43
abbrev N_room_parts:List Str:=["file","at","sort","begin","end","parts","place","label"]
theorem Yp:Ze N_room_parts ["file","at"] (Zk s_room_parts):=by trivial
abbrev s_behind_label:Stmt:=top 44
abbrev N_behind_label:List Str:=["file","at","sort"]
theorem sc_behind_label:Ze N_behind_label ["file","at","sort"] (Zk s_behind_label):=by trivial
inductive Sk:List Int→Prop
 | who (n:Int) (h0:0 ≤ n) (h1:n ≤ 10000000000000000000):Sk (0 :: Lg n)
 | szd (k:Nat) (h0:1 ≤ k) (h1:k ≤ 4) (r:List Int) (hr:r.length ≤ 1000000):Sk ((k:Int) :: (Lg (r.length:Int) ++ r))
 | arm (n:Int) (h0:0 ≤ n) (h1:n ≤ 10000000000000000000) (r:List Int) (h:Sk r):Sk (5 :: (Lg n ++ r))
def At (bs:List Int) (p:Nat) (l:List Int):Prop:=∃ rest,bs.drop p = l ++ rest
theorem At.cons {bs:List Int} {p:Nat} {x:Int} {l:List Int} (h:At bs p (x :: l)):bs[p]? = some x∧At bs (p + 1) l:=by
 obtain ⟨r,h⟩:=h
 refine ⟨?_,r, ?_⟩
 ·have z:(bs.drop p)[0]? = some x:=by rw [h]; rfl
  rwa [List.getElem?_drop] at z
 ·rw [← List.drop_drop,h]; rfl
theorem At.app {bs:List Int} {p:Nat} {l l':List Int} (h:At bs p (l ++ l')):At bs p l∧At bs (p + l.length) l':=by
 obtain ⟨r,h⟩:=h
 refine ⟨⟨l' ++ r,by rw [h,List.append_assoc]⟩,r, ?_⟩
 rw [← List.drop_drop,h,List.append_assoc,List.drop_left]
theorem At.lg {bs:List Int} {p:Nat} {n:Int} (h:At bs p (Lg n)) (h0:0 ≤ n) (h1:n ≤ 10000000000000000000):LgAt bs p n:=⟨h,h0,h1⟩
theorem Sk.ne {l:List Int} (h:Sk l):1 ≤ l.length:=by cases h <;> (rw [List.length_cons]; omega)
def sorts:List Str:=["whole","text","row","map","rec","arm"]
theorem sorts_at {k:Nat} (h:k ≤ 5):∃ z,sorts[k]? = some z∧decide (V.str z = V.str "arm") = decide (k = 5)∧decide (V.str z = V.str "whole") = decide (k = 0)∧decide (V.str z = V.str "row") = decide (k = 2)∧decide (V.str z = V.str "map") = decide (k = 3)∧decide (V.str z = V.str "rec") = decide (k = 4):=by
 have z:∃ z,sorts[k]? = some z∧((z == "arm") = decide (k = 5))∧((z == "whole") = decide (k = 0))∧((z == "row") = decide (k = 2))∧((z == "map") = decide (k = 3))∧((z == "rec") = decide (k = 4)):=by
  match k,h with
  | 0,_ => exact ⟨"whole",rfl,by decide +kernel⟩
  | 1,_ => exact ⟨"text",rfl,by decide +kernel⟩
  | 2,_ => exact ⟨"row",rfl,by decide +kernel⟩
  | 3,_ => exact ⟨"map",rfl,by decide +kernel⟩
  | 4,_ => exact ⟨"rec",rfl,by decide +kernel⟩
  | 5,_ => exact ⟨"arm",rfl,by decide +kernel⟩
 have b2:∀ {x y:Str},decide (V.str x = V.str y) = (x == y):=fun {x y} => by
  by_cases e:x = y
  ·subst e; simp
  ·rw [decide_eq_false (by intro q; injection q with q; exact e q)]
   exact (beq_eq_false_iff_ne.mpr e).symm
 obtain ⟨s,h1,h2,h3,h4,h5,h6⟩:=z
 exact ⟨s,h1,by rw [b2]; exact h2,by rw [b2]; exact h3,by rw [b2]; exact h4,by rw [b2]; exact h5,by rw [b2]; exact h6⟩
def spBI (K:PySem.W.Frag):Sp:=fun vs H Q _ => ∃ (a:Addr) (bs:List Int) (p:Nat) (l:List Int),vs = [.ref a,.int p]∧Z9 K H a (bv bs)∧At bs p l∧Sk l∧∀ H',Zf H H'→Q (.int ((p + l.length:Nat):Int)) H'
section
variable {P:Program} {w:World} {K:PySem.W.Frag} {mg:Str→Option Value} {base:Heap} {f:Addr} {fd:FuncData} {aS:Addr}
theorem so_at {H:Hp} (so:SortsOk K aS) {k:Nat} {z:Str} (h:sorts[k]? = some z):atI (sorts.map V.str) ((k:Nat):Int) = some (.str z):=Z7 (by rw [List.getElem?_map,h]; rfl)
theorem ok_bi (F:Fun K "behind_item" "behind_item" s_behind_item f fd) (so:SortsOk K aS) (x_SORTS:mg "SORTS" = some (.ref aS)) (g_behind_long:Fn P w K mg base 1 "behind_long" ["file","at"] (spBL K)) (g_long_at:Fn P w K mg base 2 "long_at" ["file","at"] (spLA K)) :
  Yd P w K mg base CX0 3 f fd ["file","at"] (spBI K):=by
 refine F.ok sc_behind_item (fun vs H Q E h => ?_) (fun cdv A outer s H vs Q E hr h => ?_)
 ·obtain ⟨a,bs,p,n,rfl,_⟩:=h
  rfl
 obtain ⟨a,bs,p0,l0,rfl,hS,hat,hsk,q⟩:=h
 refine ⟨_,(@Zj _ _ _ _ _ (@ps_while _ _ _ _ _ _ PassesOwn.never (@Zs _ _ _ _ _ _ _ _ Y3 (@Zc _ _ _ _ _ _ _ Zl (@Yo _ _ _ _ rfl x_SORTS (by decide)) (@Zc _ _ _ _ _ _ _ Zl (pv 0) (pv 1) (fun _ _ => rfl)) (fun _ _ => rfl)) Zd (Z0 _)) (@Zv _ _ _ (@Zg _ 1 _ _ _ _ _ sc_behind_item.nd rfl (by trivial) (@Zw _ _ _ _ _ _ _ _ _ _ g_behind_long hr.m rfl (Zy (pv 0) (Zy (@Zb _ _ _ _ _ _ _ _ Z4 (pv 1) Zz) Zx rfl) rfl) (by decide) rfl rfl) rfl (by trivial)))) (@Zj _ _ _ _ _ (@Zg _ 2 _ _ _ _ _ sc_behind_item.nd rfl (by trivial) (@Zw _ _ _ _ _ _ _ _ _ _ g_behind_long hr.m rfl (Zy (pv 0) (Zy (@Zb _ _ _ _ _ _ _ _ Z4 (pv 1) Zz) Zx rfl) rfl) (by decide) rfl rfl) rfl (by trivial)) (@Zj _ _ _ _ _ (@Yk _ _ _ _ _ _ _ _ (@Zs _ _ _ _ _ _ _ _ Y3 (@Zc _ _ _ _ _ _ _ Zl (@Yo _ _ _ _ rfl x_SORTS (by decide)) (@Zc _ _ _ _ _ _ _ Zl (pv 0) (pv 1) (fun _ _ => rfl)) (fun _ _ => rfl)) Zd (Z0 _)) (@Zv _ _ _ (@Zr _ _ _ _ (pv 2))) Zi) (@Zv _ _ _ (@Zr _ _ _ _ (@Zb _ _ _ _ _ _ _ _ Z4 (pv 2) (@Zw _ _ _ _ _ _ _ _ _ _ g_long_at hr.m rfl (Zy (pv 0) (Zy (@Zb _ _ _ _ _ _ _ _ Z4 (pv 1) Zz) Zx rfl) rfl) (by decide) rfl rfl))))))), ?_⟩
 refine ⟨fun μ σ H1 => H1 = H∧∃ (p:Nat) (l:List Int) (o:Option V),μ = l.length∧σ = [some (.ref a),some (.int (p:Int)),o]∧p + l.length = p0 + l0.length∧At bs p l∧Sk l,
  ⟨_,rfl,p0,l0,_,rfl,rfl,rfl,hat,hsk⟩, ?_⟩
 rintro μ σ H1 ⟨rfl,p,l,o,rfl,rfl,el,al,sk⟩
 have e1:(p:Int) + 1 = ((p + 1:Nat):Int):=by omega
 have ints1:[V.ref a,V.int ((p:Int) + 1)] = [.ref a,.int ((p + 1:Nat):Int)]:=by rw [e1]
 cases sk with
 | who n h0 h1 =>
  obtain ⟨gb,al'⟩:=al.cons
  refine ⟨_,rfl,_,rfl,a,_,_,_,rfl,rfl,hS,Z7 (bvAt gb),aS,_,_,_,rfl,rfl,so.sq _,rfl,rfl,_,rfl,Yr (by decide +kernel) ?_⟩
  refine ⟨_,rfl,_,rfl,_,_,rfl,rfl,a,bs,p + 1,n,ints1,hS,al'.lg h0 h1, ?_⟩
  refine ⟨_,rfl,_,rfl,a,_,_,_,rfl,rfl,hS,Z7 (bvAt gb),aS,_,_,_,rfl,rfl,so.sq _,rfl,rfl,_,rfl,iteY (by decide +kernel) ⟨_,rfl, ?_⟩⟩
  rw [List.length_cons] at el
  rw [show p + 1 + (Lg n).length = p0 + l0.length by omega]
  exact q H1 (Zf.refl _)
 | szd k h0 h1 r hr =>
  obtain ⟨gb,al'⟩:=al.cons
  obtain ⟨ag,ar⟩:=al'.app
  obtain ⟨z,hz,za,zw,_⟩:=sorts_at (k:=k) (by omega)
  have lg:=ag.lg (Int.natCast_nonneg _) (by omega)
  rw [List.length_cons,List.length_append] at el
  refine ⟨_,rfl,_,rfl,a,_,_,_,rfl,rfl,hS,Z7 (bvAt gb),aS,_,_,_,rfl,rfl,so.sq _,so_at (H:=H1) so hz,rfl,_,rfl,Yr (by rw [za]; exact decide_eq_false (by omega)) ?_⟩
  refine ⟨_,rfl,_,rfl,_,_,rfl,rfl,a,bs,p + 1,(r.length:Int),ints1,hS,lg, ?_⟩
  refine ⟨_,rfl,_,rfl,a,_,_,_,rfl,rfl,hS,Z7 (bvAt gb),aS,_,_,_,rfl,rfl,so.sq _,so_at (H:=H1) so hz,rfl,_,rfl,Yr (by rw [zw]; exact decide_eq_false (by omega)) ?_⟩
  refine ⟨_,rfl,_,rfl,_,rfl,_,_,rfl,rfl,a,bs,p + 1,(r.length:Int),ints1,hS,lg,fun H2 s2 => ?_⟩
  refine ⟨_,_,rfl,rfl, ?_⟩
  show Q (.int (((p + 1 + (Lg (r.length:Int)).length:Nat):Int) + (r.length:Int))) H2
  rw [show (((p + 1 + (Lg (r.length:Int)).length:Nat):Int) + (r.length:Int)) = ((p0 + l0.length:Nat):Int) by omega]
  exact q H2 s2
 | arm n h0 h1 r sr =>
  obtain ⟨gb,al'⟩:=al.cons
  obtain ⟨ag,ar⟩:=al'.app
  rw [List.length_cons,List.length_append] at el
  have l1:1 ≤ (Lg n).length:=by
   have:=Lf_ne 19 n
   unfold Lg
   cases e:Lf 19 n with
   | nil => exact absurd e this
   | cons x xs => rw [List.length_cons]; omega
  refine ⟨_,rfl,_,rfl,a,_,_,_,rfl,rfl,hS,Z7 (bvAt gb),aS,_,_,_,rfl,rfl,so.sq _,rfl,rfl,_,rfl,iteY (by decide +kernel) ⟨fun σ' H' => ∃ m',m' < (5 :: (Lg n ++ r)).length∧_,fun σ' H' h => h, ?_⟩⟩
  refine ⟨_,rfl,_,rfl,_,_,rfl,rfl,a,bs,p + 1,n,ints1,hS,ag.lg h0 h1, ?_⟩
  exact ⟨r.length,by rw [List.length_cons,List.length_append]; omega,rfl,p + 1 + (Lg n).length,r,_,rfl,rfl,by omega,ar,sr⟩
end
abbrev s_label_at:Stmt:=top 45
abbrev N_label_at:List Str:=["file","at","sort"]
theorem sc_label_at:Ze N_label_at ["file","at","sort"] (Zk s_label_at):=by trivial
abbrev s_codes_of:Stmt:=top 41
abbrev N_codes_of:List Str:=["name"]
theorem sc_codes_of:Ze N_codes_of ["name"] (Zk s_codes_of):=by trivial
abbrev s_arm_part:Stmt:=top 42
abbrev N_arm_part:List Str:=["file","at"]
theorem sc_arm_part:Ze N_arm_part ["file","at"] (Zk s_arm_part):=by trivial
abbrev Va:Stmt:=top 40
abbrev N_place_behind:List Str:=["file","at","step","sort","wanted","parts","label","place"]
theorem Yi:Ze N_place_behind ["file","at","step"] (Zk Va):=by trivial
abbrev s_span_at:Stmt:=top 38
abbrev N_span_at:List Str:=["file","path","at","number","step"]
theorem sc_span_at:Ze N_span_at ["file","path"] (Zk s_span_at):=by trivial
def bD (l:List Int):D:=.tup (l.map D.int)
theorem areInts {K:PySem.W.Frag} {H:Hp}:∀ xs:List Int,Zm K H (xs.map D.int) (bv xs)
 | [] => rfl
 | x :: xs => ⟨.int x,bv xs,rfl,rfl,areInts xs⟩
theorem isB {K:PySem.W.Frag} {H:Hp} {r:Addr} {l:List Int} (h:Z9 K H r (bv l)):Yj K H (bD l) (.ref r):=⟨r,_,rfl,h,areInts l⟩
theorem noLB (l:List Int):noL (bD l) = true:=by
 unfold bD
 simp only [noL]
 induction l with
 | nil => rfl
 | cons x l ih => simp only [List.map_cons,noLs,noL,Bool.true_and]; exact ih
theorem sk_whole (it:IT):∀ n,dpI it ≤ n→GdI it→(Z8 it).length ≤ 1000000→Sk (Z8 it):=by
 intro n
 induction n generalizing it with
 | zero => intro h; exact absurd h (by cases it <;> simp only [dpI] <;> omega)
 | succ n ih =>
  intro h gd ln
  cases it with
  | whole k => exact Sk.who _ (fold_nn k) (Int.le_trans (fold_le gd.1 gd.2) (by decide))
  | text x =>
   have e:Z8 (.text x) = ((1:Nat):Int) :: (Lg ((codes x).length:Int) ++ codes x):=by simp only [Z8,sgB,Vy]; rfl
   rw [e]
   exact Sk.szd 1 (by decide) (by decide) _ (by rw [Vy]; have:=gd.1; omega)
  | arm k e =>
   have z:Z8 (.arm k e) = 5 :: (Lg k ++ Z8 e):=by simp only [Z8]
   rw [z] at ln ⊢
   rw [List.length_cons,List.length_append] at ln
   exact Sk.arm k (by have:=gd.1; omega) (by have:=gd.2.1; omega) _ (ih e (by simp only [dpI] at h; omega) gd.2.2 (by omega))
  | lst s ls es =>
   have z:Z8 (.lst s ls es) = ((s + 2:Nat):Int) :: (Lg ((Yy ls es).length:Int) ++ Yy ls es):=by simp only [Z8]; rw [show ((s:Int) + 2) = ((s + 2:Nat):Int) by omega]
   rw [z] at ln ⊢
   rw [List.length_cons,List.length_append] at ln
   exact Sk.szd (s + 2) (by omega) (by have:=gd.1; omega) _ (by omega)
def LbT:Nat→Lb→Prop
 | 0,.no => True
 | 1,.key x => nameOk x
 | 2,.num n => 1 ≤ n∧n ≤ 999
 | _,_ => False
def labD (k:Nat):Lb→D
 | .no => .int (k:Int)
 | .key x => bD (codes x)
 | .num n => .int n
def Vm (k b:Nat):List Lb→List IT→List (D × Nat × IT)
 | l :: ls,e :: es => (labD k l,b + (lbB l).length,e) :: Vm (k + 1) (b + (lbB l).length + (Z8 e).length) ls es
 | _,_ => []
def tpD (t:D × Nat × IT):D:=.tup [t.1,.int ((t.2.1:Nat):Int)]
theorem lab_noL (k:Nat) (l:Lb):noL (labD k l) = true:=by
 cases l with
 | no => rfl
 | key x => exact noLB _
 | num n => rfl
theorem tp_noL:∀ (k b:Nat) (ls:List Lb) (es:List IT),noLs ((Vm k b ls es).map tpD) = true
 | _,_,[],_ => by simp [Vm,noLs]
 | _,_,_ :: _,[] => by simp [Vm,noLs]
 | k,b,l :: ls,e :: es => by
  simp only [Vm,List.map_cons,noLs,tpD,noL,Bool.and_eq_true,Bool.and_true]
  exact ⟨lab_noL k l,tp_noL _ _ ls es⟩
theorem lbT_of {s:Nat} {ls:List Lb} (hs:s ≤ 2) (h:GdL s ls):∀ l ∈ ls,LbT s l:=by
 intro l m
 match s,hs,h with
 | 0,_,h => rw [h l m]; exact True.intro
 | 1,_,⟨ks,e,g,_⟩ =>
  rw [e] at m
  obtain ⟨x,mx,rfl⟩:=List.mem_map.mp m
  exact g x mx
 | 2,_,⟨ks,e,g,_⟩ =>
  rw [e] at m
  obtain ⟨x,mx,rfl⟩:=List.mem_map.mp m
  exact g x mx
theorem cut_at {bs l:List Int} {p:Nat} (h:At bs p l) (hl:1 ≤ l.length):cutV (bv bs) (some ((p:Nat):Int)) (some ((p + l.length:Nat):Int)) = bv l:=by
 have pr:Pre bs p (p + l.length) l:=⟨h,Nat.le_refl _⟩
 exact pre_cut pr (pr.le (by intro e; rw [e] at hl; simp at hl))
theorem noLs_app:∀ {xs ys:List D},noLs (xs ++ ys) = true→noLs xs = true
 | [],_,_ => rfl
 | x :: xs,ys,h => by
  simp only [List.cons_append,noLs,Bool.and_eq_true] at h ⊢
  exact ⟨h.1,noLs_app h.2⟩
def spNone:Sp:=fun _ _ _ _ => False
def spBLb (K:PySem.W.Frag):Sp:=fun vs H Q _ => ∃ (a:Addr) (bs:List Int) (b s:Nat) (l:Lb),vs = [.ref a,.int (b:Int),.str (srt s)]∧Z9 K H a (bv bs)∧At bs b (lbB l)∧LbT s l∧∀ H',Zf H H'→Q (.int ((b + (lbB l).length:Nat):Int)) H'
def spLbA (K:PySem.W.Frag):Sp:=fun vs H Q _ => ∃ (a:Addr) (bs:List Int) (b s:Nat) (l:Lb),vs = [.ref a,.int (b:Int),.str (srt s)]∧Z9 K H a (bv bs)∧At bs b (lbB l)∧LbT s l∧s ≠ 0∧∀ v H',Zf H H'→Yj K H' (labD 0 l) v→Q v H'
def spRP (K:PySem.W.Frag):Sp:=fun vs H Q _ => ∃ (a:Addr) (bs:List Int) (p s:Nat) (ls:List Lb) (es:List IT),vs = [.ref a,.int (p:Int)]∧Z9 K H a (bv bs)∧At bs p (Z8 (.lst s ls es))∧GdI (.lst s ls es)∧(Z8 (.lst s ls es)).length ≤ 1000000 ∧
 ∀ (r:Addr) (us:List V) (H':Hp),Zf H H'→H' r = some (.lst us)→Zm K H' ((Vm 0 (p + 1 + (Lg ((Yy ls es).length:Int)).length) ls es).map tpD) us→Q (.ref r) H'
section
variable {P:Program} {w:World} {K:PySem.W.Frag} {mg:Str→Option Value} {base:Heap} {f:Addr} {fd:FuncData} {aS:Addr}
theorem ok_behind_label (F:Fun K "behind_label" "behind_label" s_behind_label f fd) (g_behind_long:Fn P w K mg base 1 "behind_long" ["file","at"] (spBL K)) (g_long_at:Fn P w K mg base 2 "long_at" ["file","at"] (spLA K)) :
  Yd P w K mg base CX0 3 f fd ["file","at","sort"] (spBLb K):=by
 refine F.ok sc_behind_label (fun vs H Q E h => ?_) (fun cdv A outer s H vs Q E hr h => ?_)
 ·obtain ⟨a,bs,b,s,l,rfl,_⟩:=h
  rfl
 obtain ⟨a,bs,b,so,l,rfl,hS,hat,hl,q⟩:=h
 refine ⟨_,(@Zj _ _ _ _ _ (@Yk _ _ _ _ _ _ _ _ (@Zs _ _ _ _ _ _ _ _ Y3 (pv 2) Zd (Z0 _)) (@Zv _ _ _ (@Zr _ _ _ _ (pv 1))) Zi) (@Zj _ _ _ _ _ (@Yk _ _ _ _ _ _ _ _ (@Zs _ _ _ _ _ _ _ _ Y3 (pv 2) Zd (Z0 _)) (@Zv _ _ _ (@Zr _ _ _ _ (@Zw _ _ _ _ _ _ _ _ _ _ g_behind_long hr.m rfl (Zy (pv 0) (Zy (pv 1) Zx rfl) rfl) (by decide) rfl rfl))) Zi) (@Zv _ _ _ (@Zr _ _ _ _ (@Zb _ _ _ _ _ _ _ _ Z4 (@Zw _ _ _ _ _ _ _ _ _ _ g_behind_long hr.m rfl (Zy (pv 0) (Zy (pv 1) Zx rfl) rfl) (by decide) rfl rfl) (@Zw _ _ _ _ _ _ _ _ _ _ g_long_at hr.m rfl (Zy (pv 0) (Zy (pv 1) Zx rfl) rfl) (by decide) rfl rfl)))))), ?_⟩
 match so,l,hl with
 | 0,.no,_ => exact ⟨_,rfl,rfl,_,rfl,iteY (by decide +kernel) ⟨_,rfl,q H (Zf.refl _)⟩⟩
 | 2,.num n,hn =>
  have hn:1 ≤ n∧n ≤ 999:=hn
  have lg:=At.lg (n:=n) hat (by omega) (by omega)
  exact ⟨_,rfl,rfl,_,rfl,Yr (by decide +kernel) ⟨_,rfl,rfl,_,rfl,iteY (by decide +kernel) ⟨_,rfl,_,rfl,a,bs,b,n,rfl,hS,lg,q H (Zf.refl _)⟩⟩⟩
 | 1,.key x,hx =>
  have hx1:=hx.2.1
  have lg:=At.lg (n:=(x.length:Int)) (At.app hat).1 (Int.natCast_nonneg _) (by omega)
  refine ⟨_,rfl,rfl,_,rfl,Yr (by decide +kernel) ⟨_,rfl,rfl,_,rfl,Yr (by decide +kernel) ⟨_,rfl,_,rfl,a,bs,b,_,rfl,hS,lg,_,rfl,_,rfl,a,bs,b,_,rfl,hS,lg,fun H2 s2 => ⟨_,_,rfl,rfl, ?_⟩⟩⟩⟩
  have:=q H2 s2
  rw [show (((b + (lbB (.key x)).length:Nat):Int)) = ((b + (Lg (x.length:Int)).length:Nat):Int) + (x.length:Int) by simp only [lbB,sgB,List.length_append,Vy]; omega] at this
  exact this
theorem ok_label_at (F:Fun K "label_at" "label_at" s_label_at f fd) (m:Bn mg) (g_behind_long:Fn P w K mg base 1 "behind_long" ["file","at"] (spBL K)) (g_long_at:Fn P w K mg base 2 "long_at" ["file","at"] (spLA K)) (g_behind_label:Fn P w K mg base 3 "behind_label" ["file","at","sort"] (spBLb K)) :
  Yd P w K mg base CX0 4 f fd ["file","at","sort"] (spLbA K):=by
 refine F.ok sc_label_at (fun vs H Q E h => ?_) (fun cdv A outer s H vs Q E hr h => ?_)
 ·obtain ⟨a,bs,b,s,l,rfl,_⟩:=h
  rfl
 obtain ⟨a,bs,b,so,l,rfl,hS,hat,hl,h0,q⟩:=h
 refine ⟨_,(@Zj _ _ _ _ _ (@Yk _ _ _ _ _ _ _ _ (@Zs _ _ _ _ _ _ _ _ Y3 (pv 2) Zd (Z0 _)) (@Zv _ _ _ (@Zr _ _ _ _ (@Zw _ _ _ _ _ _ _ _ _ _ g_long_at hr.m rfl (Zy (pv 0) (Zy (pv 1) Zx rfl) rfl) (by decide) rfl rfl))) Zi) (@Zv _ _ _ (@Zr _ _ _ _ (@Yu _ _ _ _ _ _ _ _ _ Y1 rfl m.tuple b_tuple (Zy (@pe_slice _ _ _ _ _ _ _ _ _ _ sl_tupG (pv 0) (@po_some _ _ _ (@Zw _ _ _ _ _ _ _ _ _ _ g_behind_long hr.m rfl (Zy (pv 0) (Zy (pv 1) Zx rfl) rfl) (by decide) rfl rfl)) (@po_some _ _ _ (@Zw _ _ _ _ _ _ _ _ _ _ g_behind_label hr.m rfl (Zy (pv 0) (Zy (pv 1) (Zy (pv 2) Zx rfl) rfl) rfl) (by decide) rfl rfl))) Zx rfl) (by trivial) (by trivial) (by trivial) (by trivial))))), ?_⟩
 match so,l,hl,h0 with
 | 0,.no,_,h0 => exact absurd rfl h0
 | 2,.num n,hn,_ =>
  have hn:1 ≤ n∧n ≤ 999:=hn
  have lg:=At.lg (n:=n) hat (by omega) (by omega)
  exact ⟨_,rfl,rfl,_,rfl,iteY (by decide +kernel) ⟨_,rfl,_,rfl,a,bs,b,n,rfl,hS,lg,fun H2 s2 => q _ H2 s2 rfl⟩⟩
 | 1,.key x,hx,_ =>
  have hx1:=hx.2.1
  have hx0:=hx.1
  obtain ⟨a1,a2⟩:=At.app hat
  have lg:=At.lg (n:=(x.length:Int)) a1 (Int.natCast_nonneg _) (by omega)
  refine ⟨_,rfl,rfl,_,rfl,Yr (by decide +kernel) ⟨_,rfl,_,rfl,_,rfl,a,bs,b,_,rfl,hS,lg,_,rfl,_,rfl,_,rfl,_,rfl,a,bs,b,1,.key x,rfl,hS,hat,hx,fun H2 s2 => ⟨_,rfl,a,_,rfl,s2.up _ _ hS,fun c H4 s4 hc => ?_⟩⟩⟩
  rw [show b + (lbB (.key x)).length = b + (Lg (x.length:Int)).length + (codes x).length by simp only [lbB,sgB,List.length_append]; omega,cut_at a2 (by rw [Vy]; exact hx0)] at hc
  exact ⟨c,_,rfl,.inr ⟨hc,q _ H4 (s2.trans s4) (isB hc)⟩⟩
theorem srt_at {s:Nat} (h:s ≤ 2):atI ((["whole","text","row","map","rec","arm"]:List Str).map V.str) ((s:Int) + 2) = some (.str (srt s)):=by
 match s,h with
 | 0,_ => rfl
 | 1,_ => rfl
 | 2,_ => rfl
theorem byI_ne (it:IT):1 ≤ (Z8 it).length:=by cases it <;> (simp only [Z8,List.length_cons]; omega)
theorem lab_ok {a p:Addr} {bs:List Int} {b s:Nat} {l:Lb} {us:List V} {o1 o4 o6 o7:Option V} {H:Hp} {C:VK} (hS:Z9 K H a (bv bs)) (hat:At bs b (lbB l)) (hl:LbT s l) (hu:H p = some (.lst us)) (h:∀ v H',Zf H H'→Yj K H' (labD us.length l) v→C v H') :
  tIf (tTest (tOp rEq (tVar 2) (tC (V.str "row")))) (tCB (fun xs H Q => ∃ p ys,xs = [V.ref p]∧(Yg K H p ys ∨ Z9 K H p ys)∧Q (V.int (ys.length:Int)) H) (Vq (tVar 5) tNil)) (tCall (spLbA K) [] E0 (Vq (tVar 0) (Vq (tVar 3) (Vq (tVar 2) tNil))))
   [some (.ref a),o1,some (.str (srt s)),some (.int (b:Int)),o4,some (.ref p),o6,o7] H C:=by
 match s,l,hl with
 | 0,.no,_ => exact ⟨_,rfl,rfl,_,rfl,iteY (by decide +kernel) ⟨_,rfl,p,us,rfl,.inl (Yg.of hu),h _ H (Zf.refl _) rfl⟩⟩
 | 2,.num n,hn => exact ⟨_,rfl,rfl,_,rfl,Yr (by decide +kernel) ⟨_,rfl,_,rfl,_,rfl,a,bs,b,2,.num n,rfl,hS,hat,hn,by decide,h⟩⟩
 | 1,.key x,hx => exact ⟨_,rfl,rfl,_,rfl,Yr (by decide +kernel) ⟨_,rfl,_,rfl,_,rfl,a,bs,b,1,.key x,rfl,hS,hat,hx,by decide,h⟩⟩
theorem ok_room_parts (F:Fun K "room_parts" "room_parts" s_room_parts f fd) (m:Bn mg) (so:SortsOk K aS) (x_SORTS:mg "SORTS" = some (.ref aS)) (g_behind_long:Fn P w K mg base 1 "behind_long" ["file","at"] (spBL K)) (g_long_at:Fn P w K mg base 2 "long_at" ["file","at"] (spLA K))
  (g_behind_item:Fn P w K mg base 3 "behind_item" ["file","at"] (spBI K)) (g_behind_label:Fn P w K mg base 3 "behind_label" ["file","at","sort"] (spBLb K)) (g_label_at:Fn P w K mg base 4 "label_at" ["file","at","sort"] (spLbA K)) :
  Yd P w K mg base CX0 5 f fd ["file","at"] (spRP K):=by
 refine F.ok Yp (fun vs H Q E h => ?_) (fun cdv A outer s H vs Q E hr h => ?_)
 ·obtain ⟨a,bs,p0,s,ls,es,rfl,_⟩:=h
  rfl
 obtain ⟨a,bs,p0,sr,ls,es,rfl,hS,hat,gd,ln,q⟩:=h
 obtain ⟨hs2,hll,gl,ge⟩:=gd
 have lt:=lbT_of hs2 gl
 have gs:=GdIs_all.mp ge
 simp only [Z8] at hat ln
 obtain ⟨gb,hat1⟩:=hat.cons
 obtain ⟨ag,ab⟩:=hat1.app
 rw [List.length_cons,List.length_append] at ln
 have lg:=ag.lg (Int.natCast_nonneg _) (by omega)
 have e1:(p0:Int) + 1 = ((p0 + 1:Nat):Int):=by omega
 have i1:[V.ref a,V.int ((p0:Int) + 1)] = [.ref a,.int ((p0 + 1:Nat):Int)]:=by rw [e1]
 generalize hb0:p0 + 1 + (Lg ((Yy ls es).length:Int)).length = b0 at ab q
 generalize hn:(Yy ls es).length = n at *
 refine ⟨_,(@Zj _ _ _ _ _ (@Zg _ 2 _ _ _ _ _ Yp.nd rfl (by trivial) (@Zc _ _ _ _ _ _ _ Zl (@Yo _ _ _ _ rfl x_SORTS (by decide)) (@Zc _ _ _ _ _ _ _ Zl (pv 0) (pv 1) (fun _ _ => rfl)) (fun _ _ => rfl)) rfl (by trivial)) (@Zj _ _ _ _ _ (@Zg _ 3 _ _ _ _ _ Yp.nd rfl (by trivial) (@Zw _ _ _ _ _ _ _ _ _ _ g_behind_long hr.m rfl (Zy (pv 0) (Zy (@Zb _ _ _ _ _ _ _ _ Z4 (pv 1) Zz) Zx rfl) rfl) (by decide) rfl rfl) rfl (by trivial)) (@Zj _ _ _ _ _ (@Zg _ 4 _ _ _ _ _ Yp.nd rfl (by trivial) (@Zb _ _ _ _ _ _ _ _ Z4 (pv 3) (@Zw _ _ _ _ _ _ _ _ _ _ g_long_at hr.m rfl (Zy (pv 0) (Zy (@Zb _ _ _ _ _ _ _ _ Z4 (pv 1) Zz) Zx rfl) rfl) (by decide) rfl rfl)) rfl (by trivial)) (@Zj _ _ _ _ _ (@Zg _ 5 _ _ _ _ _ Yp.nd rfl (by trivial) (@Yl _ _ _ _ Zx) rfl (by trivial)) (@Zj _ _ _ _ _ (@ps_while _ _ _ _ _ _ PassesOwn.never (@Zs _ _ _ _ _ _ _ _ op_lt (pv 3) (pv 4) (Z0 _)) (@Zj _ _ _ _ _ (@Zg _ 6 _ _ _ _ _ Yp.nd rfl (by trivial) (@Zw _ _ _ _ _ _ _ _ _ _ g_behind_label hr.m rfl (Zy (pv 0) (Zy (pv 3) (Zy (pv 2) Zx rfl) rfl) rfl) (by decide) rfl rfl) rfl (by trivial)) (@Zj _ _ _ _ _ (@Zg _ 7 _ _ _ _ _ Yp.nd rfl (by trivial) (@pe_ifExp _ _ _ _ _ _ _ _ (@Zs _ _ _ _ _ _ _ _ Y3 (pv 2) Zd (Z0 _)) (@Zp _ _ _ _ _ _ _ _ _ Z2 rfl m.len b_len (Zy (pv 5) Zx rfl) (by decide) (by decide) rfl rfl) (@Zw _ _ _ _ _ _ _ _ _ _ g_label_at hr.m rfl (Zy (pv 0) (Zy (pv 3) (Zy (pv 2) Zx rfl) rfl) rfl) (by decide) rfl rfl)) rfl (by trivial)) (@Zj _ _ _ _ _ (@ps_expr _ _ _ _ (@pe_bm _ _ _ _ _ _ _ _ _ _ _ _ PySem.F.plainAttrs_list PySem.F.slot_list_append PySem.F.type_list_append mt_append (pv 5) (Zy (@Z5 _ _ _ _ _ (Zy (pv 7) (Zy (pv 6) Zx rfl) rfl)) Zx rfl) (by trivial) (by trivial) (by trivial) (by trivial) (by trivial)) rfl) (@Zv _ _ _ (@Zg _ 3 _ _ _ _ _ Yp.nd rfl (by trivial) (@Zw _ _ _ _ _ _ _ _ _ _ g_behind_item hr.m rfl (Zy (pv 0) (Zy (pv 6) Zx rfl) rfl) (by decide) rfl rfl) rfl (by trivial))))))) (@Zv _ _ _ (@Zr _ _ _ _ (pv 5)))))))), ?_⟩
 refine ⟨_,rfl,_,rfl,a,_,_,_,rfl,rfl,hS,Z7 (bvAt gb),aS,_,_,_,rfl,rfl,so.sq _,srt_at hs2, ?_⟩
 refine ⟨_,rfl,_,rfl,_,_,rfl,rfl,a,_,p0 + 1,_,i1,hS,lg, ?_⟩
 refine ⟨_,rfl,_,rfl,_,rfl,_,_,rfl,rfl,a,_,p0 + 1,_,i1,hS,lg,fun H2 s2 => ⟨_,_,rfl,rfl, ?_⟩⟩
 refine ⟨(sz 0),fun p hp => ?_⟩
 have hpH:H p = none:=s2.free hp
 refine ⟨fun μ σ H1 => ∃ (ls':List Lb) (es':List IT) (dn:List (D × Nat × IT)) (b:Nat) (us:List V) (o6 o7:Option V),μ = es'.length∧σ = [some (.ref a),some (.int (p0:Int)),some (.str (srt sr)),some (.int (b:Int)),some (.int ((b0:Int) + (n:Int))),some (.ref p),o6,o7] ∧
   Vm 0 b0 ls es = dn ++ Vm dn.length b ls' es'∧ls'.length = es'.length∧(∀ l ∈ ls',LbT sr l)∧(∀ e ∈ es',GdI e)∧At bs b (Yy ls' es')∧b + (Yy ls' es').length = b0 + n∧dn.length + es'.length = es.length∧b0 ≤ b∧Zf H H1∧H1 p = some (.lst us)∧Zm K H1 (dn.map tpD) us,
  ⟨_,ls,es,[],b0,[],_,_,rfl,by rw [← hb0]; rfl,rfl,hll,lt,gs,ab,by omega,by simp,Nat.le_refl _,s2.put hpH,Zq,rfl⟩, ?_⟩
 rintro μ σ H1 ⟨ls',es',dn,b,us,o6,o7,rfl,rfl,tr,ll',lt',gs',ab',eb,el,bb,s1,hu,au⟩
 have ul:us.length = dn.length:=by rw [← au.length,List.length_map]
 have ml:∀ (ls:List Lb) (es:List IT),ls.length = es.length→es.length ≤ (Yy ls es).length:=by
  intro ls
  induction ls with
  | nil => intro es h; rw [← h]; exact Nat.zero_le _
  | cons l ls ih =>
   intro es h
   cases es with
   | nil => cases h
   | cons e es =>
    have h1:=ih es (Nat.succ.inj h)
    have h2:=byI_ne e
    simp only [Yy,List.length_append,List.length_cons]; omega
 match ls',es',ll' with
 | [],[],_ =>
  have b1:b = b0 + n:=by simp only [Yy,List.length_nil] at eb; omega
  refine ⟨_,rfl,_,rfl,_,_,rfl,rfl,_,rfl,Yr (decide_eq_false (by omega)) ⟨_,rfl,q p us H1 s1 hu ?_⟩⟩
  rw [tr]
  simp only [Vm,List.append_nil]
  exact au
 | l :: ls',e :: es',ll' =>
  have hz:us.length < sizeLine:=by
   have z:=sizeLine_eq
   have:=ml ls es hll
   rw [List.length_cons] at el
   omega
  simp only [Yy] at ab' eb
  obtain ⟨al1,al2⟩:=ab'.app
  obtain ⟨al0,ali⟩:=al1.app
  rw [List.length_append,List.length_append] at eb
  rw [List.length_append] at al2
  have be:=byI_ne e
  have ge':=gs' e List.mem_cons_self
  refine ⟨_,rfl,_,rfl,_,_,rfl,rfl,_,rfl,iteY (decide_eq_true (by omega)) ⟨fun σ' H' => ∃ m',m' < (e :: es').length∧_,fun σ' H' h => h, ?_⟩⟩
  refine ⟨_,rfl,_,rfl,_,rfl,a,bs,b,sr,l,rfl,s1.up _ _ hS,al0,lt' l List.mem_cons_self,fun H3 s3 => ?_⟩
  refine lab_ok (s1.trans s3 |>.up _ _ hS) al0 (lt' l List.mem_cons_self) (s3 _ _ hu) fun v H4 s4 dv => ?_
  have s14:=s3.trans s4
  have hu4:=s14 _ _ hu
  refine ⟨_,rfl,.inl ⟨rfl,_,Yg.of hu4⟩,_,rfl,_,rfl,(sz 2),fun t ht => ?_⟩
  have npt:p ≠ t:=Zu hu4 ht
  have hp5:Zo H4 t (.tup [v,.int ((b + (lbB l).length:Nat):Int)]) p = some (.lst us):=by rw [Zt npt]; exact hu4
  refine ⟨p,us,_,rfl,rfl,hp5,hz, ?_⟩
  have sH4:=s1.trans s14
  have s5:Zf H (Zo (Zo H4 t (.tup [v,.int ((b + (lbB l).length:Nat):Int)])) p (.lst (us ++ [.ref t]))):=(sH4.put (sH4.free ht)).put hpH
  have u5:Up K H4 (Zo (Zo H4 t (.tup [v,.int ((b + (lbB l).length:Nat):Int)])) p (.lst (us ++ [.ref t]))):=(Ya ht).trans (up_set hp5)
  refine ⟨_,rfl,_,rfl,a,bs,b + (lbB l).length,Z8 e,rfl,s5.up _ _ hS,ali,sk_whole e _ (Nat.le_refl _) ge' (by omega),fun H6 s6 => ?_⟩
  refine ⟨es'.length,by rw [List.length_cons]; omega,ls',es',dn ++ [(labD dn.length l,b + (lbB l).length,e)],b + (lbB l).length + (Z8 e).length,us ++ [.ref t],some (.int ((b + (lbB l).length:Nat):Int)),some v,rfl,rfl, ?_,Nat.succ.inj ll',fun x m => lt' x (List.mem_cons_of_mem _ m),fun x m => gs' x (List.mem_cons_of_mem _ m), ?_, ?_, ?_,by omega,s5.trans s6,s6 _ _ Zq, ?_⟩
  ·rw [tr]
   simp only [Vm,List.append_assoc,List.cons_append,List.nil_append,List.length_append,List.length_cons,List.length_nil]
  ·rw [Nat.add_assoc]; exact al2
  ·omega
  ·rw [List.length_append,List.length_singleton]; rw [List.length_cons] at el; omega
  ·rw [List.map_append]
   have nl:noLs (dn.map tpD) = true:=by
    have:=tp_noL 0 b0 ls es
    rw [tr,List.map_append] at this
    exact noLs_app this
   refine Zm.append (Zm.up ((s14.up.trans u5).trans s6.up) _ _ nl au) (Zm.one ⟨t,_,rfl,s6.up _ _ (Z9.of (by rw [Zt (Ne.symm npt)]; exact Zq)),Zm.two ?_ rfl⟩)
   rw [← ul]
   exact Yj.up (u5.trans s6.up) _ _ (lab_noL _ _) dv
end
abbrev s_item_at:Stmt:=top 39
abbrev N_item_at:List Str:=["file","path","span"]
theorem sc_item_at:Ze N_item_at ["file","path"] (Zk s_item_at):=by trivial
abbrev s_NoPlace_init:Stmt:=inClass (top 3) 0
abbrev N_NoPlace_init:List Str:=["self","step"]
theorem sc_NoPlace_init:Ze N_NoPlace_init ["self","step"] (Zk s_NoPlace_init):=by trivial
theorem dpInts:∀ xs:List Int,dpDs (xs.map D.int) = 0
 | [] => rfl
 | x :: xs => by show max (dpD (.int x)) (dpDs (xs.map D.int)) = 0; rw [dpInts xs]; rfl
theorem dpB (l:List Int):dpD (bD l) = 1:=by
 unfold bD
 simp only [dpD]
 rw [dpInts]
inductive Vs where
 | at (k:Int) | key (x:Str) | field (n:Int) | arm (n:Int)
def stW:Vs→Str
 | .at _ => "at" | .key _ => "key" | .field _ => "field" | .arm _ => "arm"
def stV:Vs→D
 | .at k => .int k | .key x => .str x | .field n => .int n | .arm n => .int n
def stD (s:Vs):D:=.tup [.str (stW s),stV s]
def stS:Vs→Str
 | .at _ => "row" | .key _ => "map" | .field _ => "rec" | .arm _ => "arm"
def want:Vs→D
 | .at k => .int k | .key x => bD (codes x) | .field n => .int n | .arm n => .int n
def stOk:Vs→Prop
 | .key x => x.length ≤ 200
 | _ => True
def itS:IT→Str
 | .whole _ => "whole" | .text _ => "text" | .arm _ _ => "arm" | .lst s _ _ => srt s
def tripI (p:Nat):IT→List (D × Nat × IT)
 | .arm n e => [(.int n,p + 1 + (Lg n).length,e)]
 | .lst _ ls es => Vm 0 (p + 1 + (Lg ((Yy ls es).length:Int)).length) ls es
 | _ => []
def Yn (p:Nat) (it:IT) (st:Vs):Option (Nat × IT):=if itS it = stS st then ((tripI p it).find? fun t => eqD t.1 (want st)).map (·.2) else none
def Vf (p:Nat) (it:IT):List Vs→Option (Nat × IT)
 | [] => some (p,it)
 | st :: sts => (Yn p it st).bind fun r => Vf r.1 r.2 sts
theorem reach_app (sts ts:List Vs):∀ (p:Nat) (it:IT),Vf p it (sts ++ ts) = (Vf p it sts).bind fun r => Vf r.1 r.2 ts:=by
 induction sts with
 | nil => intro p it; rfl
 | cons s sts ih =>
  intro p it
  show (Yn p it s).bind (fun r => Vf r.1 r.2 (sts ++ ts)) = ((Yn p it s).bind fun r => Vf r.1 r.2 sts).bind fun r => Vf r.1 r.2 ts
  cases Yn p it s with
  | none => rfl
  | some r => exact ih r.1 r.2
theorem trip_at {bs:List Int}:∀ (ls:List Lb) (es:List IT) (k b:Nat),At bs b (Yy ls es)→∀ t ∈ Vm k b ls es,At bs t.2.1 (Z8 t.2.2)∧t.2.2 ∈ es∧(Z8 t.2.2).length ≤ (Yy ls es).length
 | [],_,_,_,_,t,m => by simp [Vm] at m
 | _ :: _,[],_,_,_,t,m => by simp [Vm] at m
 | l :: ls,e :: es,k,b,h,t,m => by
  simp only [Yy] at h ⊢
  obtain ⟨h1,h2⟩:=h.app
  obtain ⟨_,h4⟩:=h1.app
  rw [List.length_append] at h2
  simp only [Vm] at m
  rw [List.length_append,List.length_append]
  rcases List.mem_cons.mp m with rfl | m
  ·exact ⟨h4,List.mem_cons_self,by show (Z8 e).length ≤ _; omega⟩
  ·obtain ⟨a1,a2,a3⟩:=trip_at ls es (k + 1) (b + (lbB l).length + (Z8 e).length) (by rw [Nat.add_assoc]; exact h2) t m
   exact ⟨a1,List.mem_cons_of_mem _ a2,by omega⟩
structure InF (bs:List Int) (p:Nat) (it:IT):Prop where
 at':At bs p (Z8 it)
 gd:GdI it
 ln:(Z8 it).length ≤ 1000000
theorem trips_in {bs:List Int} {p:Nat} {it:IT} (h:InF bs p it):∀ t ∈ tripI p it,InF bs t.2.1 t.2.2:=by
 intro t m
 obtain ⟨ha,gd,ln⟩:=h
 cases it with
 | whole n => cases m
 | text x => cases m
 | arm n e =>
  simp only [tripI,List.mem_singleton] at m
  subst m
  simp only [Z8] at ha ln
  obtain ⟨_,h2⟩:=ha.cons
  rw [List.length_cons,List.length_append] at ln
  exact ⟨h2.app.2,gd.2.2,by show (Z8 e).length ≤ _; omega⟩
 | lst s ls es =>
  simp only [Z8] at ha ln
  obtain ⟨_,h2⟩:=ha.cons
  rw [List.length_cons,List.length_append] at ln
  obtain ⟨a1,a2,a3⟩:=trip_at ls es 0 _ h2.app.2 t m
  exact ⟨a1,GdIs_all.mp gd.2.2.2 _ a2,by omega⟩
theorem toStep_in {bs:List Int} {p q:Nat} {it e:IT} {st:Vs} (h:InF bs p it) (t:Yn p it st = some (q,e)):InF bs q e:=by
 unfold Yn at t
 split at t
 ·obtain ⟨x,hx,ex⟩:=Option.map_eq_some_iff.mp t
  have:=trips_in h x (List.mem_of_find?_eq_some hx)
  rw [ex] at this
  exact this
 ·cases t
structure StepsOk (K:PySem.W.Frag) (w:World) (a:Addr):Prop where
 top:TopD K w a
 get:∀ st:Vs,∃ u,PySem.W.nsIn K a (stW st) = some (some u)∧Z6 (.str (stS st)) u
def NP (C:Addr) (E:XK) (H:Hp) (n:Nat):Prop:=∀ (d:Addr) (H':Hp),Zf H H'→H' d = some (DHO d [("step",.int (n:Int))])→E (.ref C) (some d) H'
theorem NP.same {C:Addr} {E:XK} {H H1:Hp} {k:Nat} (n:NP C E H k) (s:Zf H H1):NP C E H1 k:=fun d H' s' h => n d H' (s.trans s') h
def spInit (C:Addr):Sp:=fun vs H Q _ => ∃ x y,vs = [.ref x,y]∧H x = some (XHO x C none true) ∧
 ∀ (d:Addr) (H':Hp),H d = none→d ≠ x→(∀ b,b ≠ x→b ≠ d→H' b = H b)→H' x = some (XHO x C (some d) true)→H' d = some (DHO d [("step",y)])→Q .non H'
theorem np_raise {K:PySem.W.Frag} {C:Addr} {E E':XK} {H:Hp} {k:Nat} (c:XCls K C) (n:NP C E H k):([V.int (k:Int)]:List V).length ≤ 100∧∀ x,H x = none→spInit C (.ref x :: [V.int (k:Int)]) (Zo H x (XHO x C none true)) (fun v H2 => v = .non∧∃ a C' od,V.ref x = .ref a∧H2 a = some (XHO a C' od true)∧XCls K C'∧E (.ref C') od (Zo H2 a (XHO a C' od false))) E':=by
 refine ⟨(by show 1 ≤ 100; decide),fun x hx => ⟨x,_,rfl,Zq,fun d H' hd nd keep hx' hd' => ⟨rfl,x,C,some d,rfl,hx',c,n d _ (fun b o e => ?_) ?_⟩⟩⟩
 ·have b1:b ≠ x:=fun z => by rw [z,hx] at e; cases e
  have b2:b ≠ d:=fun z => by rw [Zt nd, ← z,e] at hd; cases hd
  rw [Zt b1,keep b b1 b2,Zt b1]; exact e
 ·rw [Zt nd]; exact hd'
def spCo (K:PySem.W.Frag):Sp:=fun vs H Q _ => ∃ x:Str,vs = [.str x]∧x.length ≤ 200∧∀ (r:Addr) (H':Hp),Zf H H'→Z9 K H' r (bv (codes x))→Q (.ref r) H'
def spAP (K:PySem.W.Frag):Sp:=fun vs H Q _ => ∃ (a:Addr) (bs:List Int) (p:Nat) (n:Int) (e:IT),vs = [.ref a,.int (p:Int)]∧Z9 K H a (bv bs)∧At bs p (Z8 (.arm n e))∧1 ≤ n∧n ≤ 999 ∧
 ∀ (r:Addr) (H':Hp),Zf H H'→Z9 K H' r [.int n,.int ((p + 1 + (Lg n).length:Nat):Int)]→Q (.ref r) H'
def stepV:Option (Nat × IT)→V
 | some (q,_) => .int (q:Int)
 | none => .non
def spPB (K:PySem.W.Frag):Sp:=fun vs H Q _ => ∃ (a:Addr) (v:V) (bs:List Int) (p:Nat) (it:IT) (st:Vs),vs = [.ref a,.int (p:Int),v]∧Z9 K H a (bv bs)∧InF bs p it∧Yj K H (stD st) v∧stOk st∧∀ H',Zf H H'→Q (stepV (Yn p it st)) H'
def spSA (K:PySem.W.Frag) (C:Addr):Sp:=fun vs H Q E => ∃ (a pa:Addr) (xs:List V) (it:IT) (sts:List Vs),vs = [.ref a,.ref pa]∧Z9 K H a (bv (Z8 it))∧GdI it∧(Z8 it).length ≤ 1000000∧Z9 K H pa xs∧Zm K H (sts.map stD) xs∧(∀ s ∈ sts,stOk s) ∧
 (∀ (q:Nat) (e:IT),Vf 0 it sts = some (q,e)→∀ r H',Zf H H'→Z9 K H' r [.int (q:Int),.int ((q + (Z8 e).length:Nat):Int)]→Q (.ref r) H') ∧
 (∀ (pre post:List Vs) (st:Vs) (q:Nat) (e:IT),sts = pre ++ st :: post→Vf 0 it pre = some (q,e)→Yn q e st = none→NP C E H pre.length)
section
variable {P:Program} {w:World} {K:PySem.W.Frag} {mg:Str→Option Value} {base:Heap} {f:Addr} {fd:FuncData} {aS aT C fi:Addr} {fdi:FuncData}
theorem ok_init (F:Fun K "__init__" "NoPlace.__init__" s_NoPlace_init f fd) (c:XCls K C) (n:NoAttr K C "step"):Yd P w K mg base CX0 1 f fd ["self","step"] (spInit C):=by
 refine F.ok sc_NoPlace_init (fun vs H Q E h => ?_) (fun cdv A outer s H vs Q E hr h => ?_)
 ·obtain ⟨x,y,rfl,_⟩:=h
  rfl
 obtain ⟨x,y,rfl,hx,q⟩:=h
 refine ⟨_,(@Zv _ _ _ (@ps_fldX _ _ _ _ _ _ _ _ (pv 0) (pv 1) rfl)), ?_⟩
 refine ⟨_,rfl,_,rfl,x,C,none,true,rfl,hx,c,n,.inl ⟨rfl,fun d hd nd => ?_⟩⟩
 exact q d _ hd nd (fun b h1 h2 => by rw [Zt h1,Zt h2]) Zq (by rw [Zt nd,Zq])
theorem ok_codes_of (F:Fun K "codes_of" "codes_of" s_codes_of f fd) (m:Bn mg):Yd P w K mg base CX0 1 f fd ["name"] (spCo K):=by
 refine F.ok sc_codes_of (fun vs H Q E h => ?_) (fun cdv A outer s H vs Q E hr h => ?_)
 ·obtain ⟨x,rfl,_⟩:=h
  rfl
 obtain ⟨x,rfl,hx,q⟩:=h
 refine ⟨_,(@Zv _ _ _ (@Zr _ _ _ _ (@Yu _ _ _ _ _ _ _ _ _ Y1 rfl m.tuple b_tuple (Zy (@Y6 _ N_codes_of (Zk s_codes_of) ["sign"] [none] _ _ _ _ _ _ _ _ _ _ rfl (@pi_str _ _ _ _ (pv 0)) ⟨rfl,rfl,by decide +kernel,by decide +kernel⟩ (fun _ _ _ => (@Zh _ 0 _ _ (show List.Nodup (["sign"]:List Str) from by decide +kernel) rfl (Or.inl rfl) (by trivial))) (fun _ _ _ => Vz) (fun _ _ _ => (@Zp _ _ _ _ _ _ _ _ _ call_ord rfl m.ord b_ord (Zy (pv 0) Zx rfl) (by decide) (by decide) rfl rfl)) (by trivial)) Zx rfl) (by trivial) (by trivial) (by trivial) (by trivial)))), ?_⟩
 refine ⟨_,rfl,x,rfl,fun D fp sx hD => ord_comp (Nat.le_trans hx (by decide)) hD fun H2 s2 h2 => ⟨D,_,rfl,.inl ⟨Yg.of h2,fun l hl => q l _ (s2.trans (Zf.lay hl)) (Z9.of Zq)⟩⟩⟩
theorem ok_arm_part (F:Fun K "arm_part" "arm_part" s_arm_part f fd) (g_behind_long:Fn P w K mg base 1 "behind_long" ["file","at"] (spBL K)) (g_long_at:Fn P w K mg base 2 "long_at" ["file","at"] (spLA K)):Yd P w K mg base CX0 3 f fd ["file","at"] (spAP K):=by
 refine F.ok sc_arm_part (fun vs H Q E h => ?_) (fun cdv A outer s H vs Q E hr h => ?_)
 ·obtain ⟨a,bs,p,n,e,rfl,_⟩:=h
  rfl
 obtain ⟨a,bs,p,n,e,rfl,hS,hat,n1,n2,q⟩:=h
 simp only [Z8] at hat
 have lg:=(hat.cons.2.app.1).lg (n:=n) (by omega) (by omega)
 have i1:[V.ref a,V.int ((p:Int) + 1)] = [.ref a,.int ((p + 1:Nat):Int)]:=by rw [show (p:Int) + 1 = ((p + 1:Nat):Int) by omega]
 refine ⟨_,(@Zv _ _ _ (@Zr _ _ _ _ (@Z5 _ _ _ _ _ (Zy (@Zw _ _ _ _ _ _ _ _ _ _ g_long_at hr.m rfl (Zy (pv 0) (Zy (@Zb _ _ _ _ _ _ _ _ Z4 (pv 1) Zz) Zx rfl) rfl) (by decide) rfl rfl) (Zy (@Zw _ _ _ _ _ _ _ _ _ _ g_behind_long hr.m rfl (Zy (pv 0) (Zy (@Zb _ _ _ _ _ _ _ _ Z4 (pv 1) Zz) Zx rfl) rfl) (by decide) rfl rfl) Zx rfl) rfl)))), ?_⟩
 refine ⟨_,rfl,_,rfl,_,_,rfl,rfl,a,bs,p + 1,n,i1,hS,lg,fun H2 s2 => ?_⟩
 refine ⟨_,rfl,_,rfl,_,_,rfl,rfl,a,bs,p + 1,n,i1,s2.up _ _ hS,lg,(sz 2),fun r hr2 => ?_⟩
 exact q r _ (s2.trans (Zf.lay hr2)) (Z9.of Zq)
theorem want_ok {v:V} {st:Vs} {o0 o1 o4 o5 o6 o7:Option V} {H:Hp} {C:VK} (hv:Yj K H (stD st) v) (ok:stOk st) (h:∀ v H',Zf H H'→Yj K H' (want st) v→C v H') :
  tIf (tTest (tOp rEq (tVar 3) (tC (V.str "map")))) (tCall (spCo K) [] E0 (Vq (tOp (rIxT K) (tVar 2) (tC (.int 1))) tNil)) (tOp (rIxT K) (tVar 2) (tC (.int 1))) [o0,o1,some v,some (.str (stS st)),o4,o5,o6,o7] H C:=by
 obtain ⟨r,x,y,rfl,hq,_,hy⟩:=isD2 hv
 cases st with
 | key z =>
  obtain rfl:y = .str z:=hy
  exact ⟨_,rfl,rfl,_,rfl,iteY (by simp only [stS]; decide +kernel) ⟨_,rfl,r,_,_,_,rfl,rfl,hq,rfl,z,rfl,ok,fun t H' s' ht => h _ H' s' (isB ht)⟩⟩
 | «at» k => exact ⟨_,rfl,rfl,_,rfl,Yr (show decide (V.str "row" = V.str "map") = false from by decide +kernel) ⟨_,rfl,r,_,_,_,rfl,rfl,hq,rfl,h _ H (Zf.refl _) hy⟩⟩
 | field k => exact ⟨_,rfl,rfl,_,rfl,Yr (show decide (V.str "rec" = V.str "map") = false from by decide +kernel) ⟨_,rfl,r,_,_,_,rfl,rfl,hq,rfl,h _ H (Zf.refl _) hy⟩⟩
 | arm k => exact ⟨_,rfl,rfl,_,rfl,Yr (show decide (V.str "arm" = V.str "map") = false from by decide +kernel) ⟨_,rfl,r,_,_,_,rfl,rfl,hq,rfl,h _ H (Zf.refl _) hy⟩⟩
theorem parts_ok {a:Addr} {bs:List Int} {p:Nat} {it:IT} {st:Vs} {o2 o4 o5 o6 o7:Option V} {H:Hp} {C:VK} (hS:Z9 K H a (bv bs)) (hi:InF bs p it) (e:itS it = stS st)
  (h:∀ r us H',Zf H H'→H' r = some (.lst us)→Zm K H' ((tripI p it).map tpD) us→C (.ref r) H') :
  tIf (tTest (tOp rEq (tVar 3) (tC (V.str "arm")))) (tLst (Vq (tCall (spAP K) [] E0 (Vq (tVar 0) (Vq (tVar 1) tNil))) tNil)) (tCall (spRP K) [] E0 (Vq (tVar 0) (Vq (tVar 1) tNil)))
   [some (.ref a),some (.int (p:Int)),o2,some (.str (stS st)),o4,o5,o6,o7] H C:=by
 cases it with
 | whole n => exact absurd e (by cases st <;> (simp only [itS,stS]; decide +kernel))
 | text n => exact absurd e (by cases st <;> (simp only [itS,stS]; decide +kernel))
 | arm n e' =>
  have es:stS st = "arm" := e.symm
  refine ⟨_,rfl,rfl,_,rfl,iteY (decide_eq_true (by rw [es])) ⟨_,rfl,_,rfl,a,bs,p,n,e',rfl,hS,hi.at',hi.gd.1,hi.gd.2.1,fun r H2 s2 hr => ⟨(sz 1),fun l hl => ?_⟩⟩⟩
  refine h l _ _ (s2.trans (Zf.lay hl)) Zq (Zm.one ⟨r,_,rfl,Ya hl _ _ hr,Zm.two rfl rfl⟩)
 | lst s ls es =>
  have h2:=hi.gd.1
  have ne:¬ (stS st = "arm"):=fun z => by
   have e:srt s = stS st:=e
   rw [z] at e
   revert e
   match s,h2 with
   | 0,_ => decide +kernel
   | 1,_ => decide +kernel
   | 2,_ => decide +kernel
  exact ⟨_,rfl,rfl,_,rfl,Yr (decide_eq_false (by intro z; injection z with z; exact ne z)) ⟨_,rfl,_,rfl,a,bs,p,s,ls,es,rfl,hS,hi.at',hi.gd,hi.ln,h⟩⟩
theorem trip_noL1:∀ (k b:Nat) (ls:List Lb) (es:List IT),∀ t ∈ Vm k b ls es,noL t.1 = true
 | _,_,[],_,t,m => by simp [Vm] at m
 | _,_,_ :: _,[],t,m => by simp [Vm] at m
 | k,b,l :: ls,e :: es,t,m => by
  simp only [Vm] at m
  rcases List.mem_cons.mp m with rfl | m
  ·exact lab_noL k l
  ·exact trip_noL1 _ _ ls es t m
theorem trip_noL {p:Nat} {it:IT}:∀ t ∈ tripI p it,noL t.1 = true:=by
 intro t m
 cases it with
 | whole n => cases m
 | text x => cases m
 | arm n e =>
  simp only [tripI,List.mem_singleton] at m
  subst m
  rfl
 | lst s ls es => exact trip_noL1 _ _ ls es t m
theorem itS_at {bs:List Int} {p:Nat} {it:IT} (hi:InF bs p it):∃ n:Int,bs[p]? = some n∧atI ((["whole","text","row","map","rec","arm"]:List Str).map V.str) n = some (.str (itS it)):=by
 have hat:=hi.at'
 cases it with
 | whole n => exact ⟨0,(At.cons (by simpa only [Z8] using hat)).1,rfl⟩
 | text n => exact ⟨1,(At.cons (by simpa only [Z8] using hat)).1,rfl⟩
 | arm n e => exact ⟨5,(At.cons (by simpa only [Z8] using hat)).1,rfl⟩
 | lst s ls es => exact ⟨_,(At.cons (by simpa only [Z8] using hat)).1,srt_at hi.gd.1⟩
theorem find_drop {α:Type _} {P:α→Bool} {l:List α} {i:Nat} {x:α} (h:l[i]? = some x) (e:l.find? P = (l.drop i).find? P):(P x = true→l.find? P = some x)∧(P x = false→l.find? P = (l.drop (i + 1)).find? P):=by
 have hi:i < l.length:=(List.getElem?_eq_some_iff.mp h).1
 have ed:l.drop i = x :: l.drop (i + 1):=by
  rw [show x = l[i] from ((List.getElem?_eq_some_iff.mp h).2).symm,List.getElem_cons_drop]
 rw [ed] at e
 exact ⟨fun t => by rw [e,List.find?_cons,t],fun t => by rw [e,List.find?_cons,t]⟩
theorem dp_lab (k:Nat) (l:Lb):dpD (labD k l) ≤ 1:=by
 cases l with
 | no => exact Nat.zero_le _
 | key x => exact Nat.le_of_eq (dpB _)
 | num n => exact Nat.zero_le _
theorem dp_trip:∀ (k b:Nat) (ls:List Lb) (es:List IT),∀ t ∈ Vm k b ls es,dpD t.1 ≤ 1
 | _,_,[],_,t,m => by simp [Vm] at m
 | _,_,_ :: _,[],t,m => by simp [Vm] at m
 | k,b,l :: ls,e :: es,t,m => by
  simp only [Vm] at m
  rcases List.mem_cons.mp m with rfl | m
  ·exact dp_lab k l
  ·exact dp_trip _ _ ls es t m
theorem dp_tripI {p:Nat} {it:IT}:∀ t ∈ tripI p it,dpD t.1 ≤ 1:=by
 intro t m
 cases it with
 | whole n => cases m
 | text x => cases m
 | arm n e =>
  simp only [tripI,List.mem_singleton] at m
  subst m
  exact Nat.zero_le _
 | lst s ls es => exact dp_trip _ _ ls es t m
theorem ok_place_behind (F:Fun K "place_behind" "place_behind" Va f fd) (so:SortsOk K aS) (x_SORTS:mg "SORTS" = some (.ref aS)) (st':StepsOk K w aT) (x_SORTS_OF_STEPS:mg "SORTS_OF_STEPS" = some (.ref aT))
  (g_room_parts:Fn P w K mg base 5 "room_parts" ["file","at"] (spRP K)) (g_codes_of:Fn P w K mg base 1 "codes_of" ["name"] (spCo K)) (g_arm_part:Fn P w K mg base 3 "arm_part" ["file","at"] (spAP K)) :
  Yd P w K mg base CX0 6 f fd ["file","at","step"] (spPB K):=by
 refine F.ok Yi (fun vs H Q E h => ?_) (fun cdv A outer s H vs Q E hr h => ?_)
 ·obtain ⟨a,v,bs,p,it,st,rfl,_⟩:=h
  rfl
 obtain ⟨a,v,bs,p,it,st,rfl,hS,hi,hv,ok,q⟩:=h
 have un:∀ n,n ≤ 200→(A.deeper (envOfC "place_behind" (Zk Va) s.heap.objs.size f cdv)).units + n < cLine:=fun n h => by
  have:=hr.un
  omega
 obtain ⟨u,hu,ru⟩:=st'.get st
 obtain ⟨n,hn,hs⟩:=itS_at hi
 obtain ⟨r,x,y,rfl,hq,hx,hy⟩:=isD2 hv
 obtain rfl:x = .str (stW st):=hx
 refine ⟨_,(@Zj _ _ _ _ _ (@Zg _ 3 _ _ _ _ _ Yi.nd rfl (by trivial) (@Zc _ _ _ _ _ _ _ Zl (@Yo _ _ _ _ rfl x_SORTS (by decide)) (@Zc _ _ _ _ _ _ _ Zl (pv 0) (pv 1) (fun _ _ => rfl)) (fun _ _ => rfl)) rfl (by trivial)) (@Zj _ _ _ _ _ (@Yk _ _ _ _ _ _ _ _ (@Zs _ _ _ _ _ _ _ _ op_ne (pv 3) (@Zc _ _ _ _ _ _ _ ix_topD (@Yo _ _ _ _ rfl x_SORTS_OF_STEPS (by decide)) (@Zc _ _ _ _ _ _ _ Zl (pv 2) Zz (fun _ _ => rfl)) (fun _ _ => rfl)) (Z0 _)) (@Zv _ _ _ (@Zr _ _ _ _ pe_non)) Zi) (@Zj _ _ _ _ _ (@Zg _ 4 _ _ _ _ _ Yi.nd rfl (by trivial) (@pe_ifExp _ _ _ _ _ _ _ _ (@Zs _ _ _ _ _ _ _ _ Y3 (pv 3) Zd (Z0 _)) (@Zw _ _ _ _ _ _ _ _ _ _ g_codes_of hr.m rfl (Zy (@Zc _ _ _ _ _ _ _ Zl (pv 2) Zz (fun _ _ => rfl)) Zx rfl) (by decide) rfl rfl) (@Zc _ _ _ _ _ _ _ Zl (pv 2) Zz (fun _ _ => rfl))) rfl (by trivial)) (@Zj _ _ _ _ _ (@Zg _ 5 _ _ _ _ _ Yi.nd rfl (by trivial) (@pe_ifExp _ _ _ _ _ _ _ _ (@Zs _ _ _ _ _ _ _ _ Y3 (pv 3) Zd (Z0 _)) (@Yl _ _ _ _ (Zy (@Zw _ _ _ _ _ _ _ _ _ _ g_arm_part hr.m rfl (Zy (pv 0) (Zy (pv 1) Zx rfl) rfl) (by decide) rfl rfl) Zx rfl)) (@Zw _ _ _ _ _ _ _ _ _ _ g_room_parts hr.m rfl (Zy (pv 0) (Zy (pv 1) Zx rfl) rfl) (by decide) rfl rfl)) rfl (by trivial)) (@Zj _ _ _ _ _ (@ps_for _ _ _ _ _ _ _ _ PassesOwn.never rfl (@pi_list _ _ _ _ (pv 5)) (@pg_tup _ _ _ _ _ _ rfl (@Yh _ _ _ _ _ (@Zh _ 6 _ _ Yi.nd rfl (Or.inl rfl) (by trivial)) (@Yh _ _ _ _ _ (@Zh _ 7 _ _ Yi.nd rfl (Or.inl rfl) (by trivial)) pgs_nil (by trivial)) (by trivial)) (by trivial) (by trivial)) (@Zv _ _ _ (@Yk _ _ _ _ _ _ _ _ (@Zs _ _ _ _ _ _ _ _ op_eqD (pv 6) (pv 4) (Z0 _)) (@Zv _ _ _ (@Zr _ _ _ _ (pv 7))) Zi)) (by trivial)) (@Zv _ _ _ (@Zr _ _ _ _ pe_non))))))), ?_⟩
 refine ⟨_,rfl,_,rfl,a,_,_,_,rfl,rfl,hS,Z7 (bvAt hn),aS,_,_,_,rfl,rfl,so.sq _,hs, ?_⟩
 refine ⟨_,rfl,_,rfl,r,_,_,_,rfl,rfl,hq,rfl,aT,_,.str (stS st),u,rfl,rfl,st'.top,hu,ru,rfl,_,rfl, ?_⟩
 by_cases c:itS it = stS st
 ·refine Yr (by rw [c]; simp) ?_
  rw [c]
  refine want_ok hv ok fun y' H2 s2 hy' => ?_
  refine parts_ok (st:=st) (s2.up _ _ hS) hi c fun l us H3 s3 hl au => ?_
  have hy3:Yj K H3 (want st) y':=Yj.up s3.up _ _ (by cases st <;> first | rfl | exact noLB _) hy'
  have ul:us.length = (tripI p it).length:=by rw [← au.length,List.length_map]
  refine ⟨_,rfl,l,rfl,⟨_,Yg.of hl⟩,for_list (xs:=us) (fun i σ H4 => (tripI p it).find? (fun t => eqD t.1 (want st)) = ((tripI p it).drop i).find? (fun t => eqD t.1 (want st))∧Zf H3 H4∧∃ o6 o7,σ = [some (.ref a),some (.int (p:Int)),some (.ref r),some (.str (stS st)),some y',some (.ref l),o6,o7]) ⟨rfl,Zf.refl _,_,_,rfl⟩ ?_ ?_ ?_⟩
  ·rintro i σ H4 hi' ⟨_,s4,_⟩
   exact Yg.of (s4 _ _ hl)
  ·rintro i x σ H4 hx ⟨hf,s4,o6,o7,rfl⟩
   have il:i < (tripI p it).length:=by have:=(List.getElem?_eq_some_iff.mp hx).1; omega
   have ht:(tripI p it)[i]? = some (tripI p it)[i]:=List.getElem?_eq_getElem il
   generalize (tripI p it)[i] = t at ht
   obtain ⟨x',hx',dx⟩:=au.get (by rw [List.getElem?_map,ht]; rfl:((tripI p it).map tpD)[i]? = some (tpD t))
   rw [hx] at hx'
   cases hx'
   obtain ⟨tt,x1,x2,rfl,htt,h1,h2⟩:=isD2 (show Yj K H3 (.tup [t.1,.int ((t.2.1:Nat):Int)]) x from dx)
   obtain rfl:x2 = .int ((t.2.1:Nat):Int):=h2
   obtain ⟨ft,ff⟩:=find_drop ht hf
   have dt:=dp_tripI t (List.mem_of_getElem? ht)
   refine ⟨tt,_,rfl,s4.up _ _ htt,rfl,_,_,rfl,_,_,rfl,rfl, ?_⟩
   refine ⟨_,rfl,_,rfl,t.1,want st,Yj.up s4.up _ _ (trip_noL t (List.mem_of_getElem? ht)) h1,Yj.up s4.up _ _ (by cases st <;> first | rfl | exact noLB _) hy3,un (dpD t.1) (by omega),_,rfl, ?_⟩
   cases ce:eqD t.1 (want st) with
   | true =>
    refine iteT ⟨_,rfl, ?_⟩
    have:=q H4 ((s2.trans s3).trans s4)
    unfold Yn at this
    rw [if_pos c,ft ce] at this
    exact this
   | false => exact iteF ⟨ff ce,s4,_,_,rfl⟩
  ·rintro σ H4 ⟨hf,s4,_⟩
   have:=q H4 ((s2.trans s3).trans s4)
   unfold Yn at this
   rw [if_pos c,hf,ul,List.drop_length] at this
   exact this
 ·refine iteY (by simp [c]) ?_
  have:=q H (Zf.refl _)
  unfold Yn at this
  rw [if_neg c] at this
  exact this
end
theorem reach_in {bs:List Int}:∀ (sts:List Vs) {p q:Nat} {it e:IT},InF bs p it→Vf p it sts = some (q,e)→InF bs q e
 | [],p,q,it,e,h,r => by cases r; exact h
 | s :: sts,p,q,it,e,h,r => by
  obtain ⟨x,hx,r'⟩:=Option.bind_eq_some_iff.mp r
  exact reach_in sts (toStep_in h hx) r'
theorem reach_snoc {sts:List Vs} {st:Vs} {p q:Nat} {it e:IT} (h:Vf p it sts = some (q,e)):Vf p it (sts ++ [st]) = Yn q e st:=by
 rw [reach_app,h]
 show (Yn q e st).bind (fun r => some (r.1,r.2)) = _
 cases Yn q e st <;> rfl
def spIA (K:PySem.W.Frag) (C:Addr):Sp:=fun vs H Q E => ∃ (a pa:Addr) (xs:List V) (it:IT) (pre post:List Vs) (st:Vs) (q:Nat) (e:IT),vs = [.ref a,.ref pa]∧Z9 K H a (bv (Z8 it))∧GdI it∧(Z8 it).length ≤ 1000000∧Z9 K H pa xs∧Zm K H ((pre ++ st :: post).map stD) xs∧(∀ s ∈ pre ++ st :: post,stOk s) ∧
 Vf 0 it pre = some (q,e)∧Yn q e st = none∧NP C E H pre.length
theorem no_two {it e e':IT} {q q':Nat} {pre pre' post post':List Vs} {st st':Vs} (h:pre ++ st :: post = pre' ++ st' :: post') (r:Vf 0 it pre = some (q,e)) (n:Yn q e st = none) (r':Vf 0 it pre' = some (q',e')) (n':Yn q' e' st' = none):pre = pre':=by
 have none_of:∀ (ts us:List Vs),Vf 0 it ts = none→Vf 0 it (ts ++ us) = none:=fun ts us h => by rw [reach_app,h]; rfl
 rcases List.append_eq_append_iff.mp h with ⟨c,e1,e2⟩ | ⟨c,e1,e2⟩
 ·cases c with
  | nil => rw [e1,List.append_nil]
  | cons x c =>
   rw [List.cons_append] at e2
   injection e2 with e3 e4
   rw [e1, ← e3,show pre ++ st :: c = (pre ++ [st]) ++ c by simp,none_of _ _ (by rw [reach_snoc r]; exact n)] at r'
   cases r'
 ·cases c with
  | nil => rw [e1,List.append_nil]
  | cons x c =>
   rw [List.cons_append] at e2
   injection e2 with e3 e4
   rw [e1, ← e3,show pre' ++ st' :: c = (pre' ++ [st']) ++ c by simp,none_of _ _ (by rw [reach_snoc r']; exact n')] at r
   cases r
section
variable {P:Program} {w:World} {K:PySem.W.Frag} {mg:Str→Option Value} {base:Heap} {f:Addr} {fd:FuncData} {aS aT C fi:Addr} {fdi:FuncData}
theorem ok_span_at (F:Fun K "span_at" "span_at" s_span_at f fd) (m:Bn mg) (g_place_behind:Fn P w K mg base 6 "place_behind" ["file","at","step"] (spPB K)) (g_behind_item:Fn P w K mg base 3 "behind_item" ["file","at"] (spBI K))
  (c:XCls K C) (mk_NoPlace:XMk K C fi) (f_NoPlace:Yd P w K mg base CX0 1 fi fdi ["self","step"] (spInit C)) (x_NoPlace:mg "NoPlace" = some (.ref C)) (bi_NoPlace:Binds K fdi ["self","step"] []) :
  Yd P w K mg base (CX1 P w) 7 f fd ["file","path"] (spSA K C):=by
 refine F.okX sc_span_at (fun vs H Q E h => ?_) (fun cdv A outer s H vs Q E hr h => ?_)
 ·obtain ⟨a,pa,xs,it,sts,rfl,_⟩:=h
  rfl
 obtain ⟨a,pa,xs,it,sts,rfl,hS,gd,ln,hpa,ax,sk,q1,q2⟩:=h
 have xl:xs.length = sts.length:=by rw [← ax.length,List.length_map]
 have i0:InF (Z8 it) 0 it:=⟨⟨[],by simp⟩,gd,ln⟩
 refine ⟨_,(@Zj _ _ _ _ _ (@Zg _ 2 _ _ _ _ _ sc_span_at.nd rfl (by trivial) Zz rfl (by trivial)) (@Zj _ _ _ _ _ (@ps_for _ _ _ _ _ _ _ _ PassesOwn.leaving rfl (pi_enum rfl m.enumerate (Zy (pv 1) Zx rfl)) (@pg_tup _ _ _ _ _ _ rfl (@Yh _ _ _ _ _ (@Zh _ 3 _ _ sc_span_at.nd rfl (Or.inl rfl) (by trivial)) (@Yh _ _ _ _ _ (@Zh _ 4 _ _ sc_span_at.nd rfl (Or.inl rfl) (by trivial)) pgs_nil (by trivial)) (by trivial)) (by trivial) (by trivial)) (@Zj _ _ _ _ _ (@Zg _ 2 _ _ _ _ _ sc_span_at.nd rfl (by trivial) (@Zw _ _ _ _ _ _ _ _ _ _ g_place_behind hr.m rfl (Zy (pv 0) (Zy (pv 2) (Zy (pv 4) Zx rfl) rfl) rfl) (by decide) rfl rfl) rfl (by trivial)) (@Zv _ _ _ (@Yk _ _ _ _ _ _ _ _ (@Zs _ _ _ _ _ _ _ _ op_isN (pv 2) pe_non (Z0 _)) (@Zv _ _ _ (@ps_raiseX _ _ _ _ _ xw_fn (@pe_mkX _ _ _ _ _ _ _ _ _ _ _ _ _ _ _ mk_NoPlace f_NoPlace hr.m rfl x_NoPlace bi_NoPlace pass0 (Zy (pv 3) Zx rfl) (by decide) rfl rfl) rfl)) Zi))) (by trivial)) (@Zv _ _ _ (@Zr _ _ _ _ (@Z5 _ _ _ _ _ (Zy (pv 2) (Zy (@Zw _ _ _ _ _ _ _ _ _ _ g_behind_item hr.m rfl (Zy (pv 0) (Zy (pv 2) Zx rfl) rfl) (by decide) rfl rfl) Zx rfl) rfl)))))), ?_⟩
 refine ⟨_,rfl,pa,_,rfl,hpa,for_enum (xs:=xs) (fun i σ H3 => Zf H H3∧∃ (n:Nat) (e:IT) (o3 o4:Option V),σ = [some (.ref a),some (.ref pa),some (.int (n:Int)),o3,o4]∧Vf 0 it (sts.take i) = some (n,e)) ⟨Zf.refl _,0,it,_,_,rfl,rfl⟩ ?_ ?_ ?_⟩
 ·rintro i σ H3 hi ⟨s3,_⟩
  exact s3.up _ _ hpa
 ·rintro i x p σ H3 hx ⟨s3,n,e,o3,o4,rfl,rc⟩ hp
  have il:i < sts.length:=by have:=(List.getElem?_eq_some_iff.mp hx).1; omega
  have hst:sts[i]? = some sts[i]:=List.getElem?_eq_getElem il
  have tk:sts.take (i + 1) = sts.take i ++ [sts[i]]:=by rw [List.take_succ,hst]; rfl
  have sp:sts = sts.take i ++ sts[i] :: sts.drop (i + 1):=by rw [List.getElem_cons_drop,List.take_append_drop]
  generalize sts[i] = st at hst tk sp
  obtain ⟨x',hx',dx⟩:=ax.get (by rw [List.getElem?_map,hst]; rfl:(sts.map stD)[i]? = some (stD st))
  rw [hx] at hx'
  cases hx'
  have s4:=s3.trans (Zf.lay (o:=.tup [.int ((i:Nat):Int),x]) hp)
  refine ⟨p,_,rfl,Z9.of Zq,rfl,_,_,rfl,_,_,rfl,rfl, ?_⟩
  have inn:=reach_in _ i0 rc
  refine ⟨_,rfl,_,rfl,_,rfl,a,x,Z8 it,n,e,st,rfl,s4.up _ _ hS,inn,Yj.up s4.up _ _ (by cases st <;> rfl) dx,sk st (List.mem_of_getElem? hst),fun H5 s5 => ?_⟩
  have rs:=reach_snoc (st:=st) rc
  rw [← tk] at rs
  cases ts:Yn n e st with
  | some r =>
   refine ⟨_,rfl,rfl,_,rfl,Yr (decide_eq_false (by intro z; cases z)) ?_⟩
   rw [ts] at rs
   exact ⟨s4.trans s5,r.1,r.2,_,_,rfl,rs⟩
  | none =>
   refine ⟨_,rfl,rfl,_,rfl,iteY (decide_eq_true rfl) ?_⟩
   have np:=q2 (sts.take i) (sts.drop (i + 1)) st n e sp rc ts
   rw [List.length_take,Nat.min_eq_left (Nat.le_of_lt il)] at np
   exact ⟨_,rfl,np_raise c (np.same (s4.trans s5))⟩
 ·rintro σ H3 ⟨s3,n,e,o3,o4,rfl,rc⟩
  rw [xl,List.take_length] at rc
  have inn:=reach_in _ i0 rc
  refine ⟨_,rfl,_,rfl,_,rfl,a,_,n,Z8 e,rfl,s3.up _ _ hS,inn.at',sk_whole e _ (Nat.le_refl _) inn.gd inn.ln,fun H5 s5 => ⟨(sz 2),fun r hr5 => ?_⟩⟩
  exact q1 n e rc r _ ((s3.trans s5).trans (Zf.lay hr5)) (Z9.of Zq)
theorem ok_item_at (F:Fun K "item_at" "item_at" s_item_at f fd) (g_span_at:FnX P w K mg base 7 "span_at" ["file","path"] (spSA K C)) (g_unpacked_between:Fn P w K mg base 1 "unpacked_between" ["file","begin","end"] spNone):Yd P w K mg base (CX1 P w) 8 f fd ["file","path"] (spIA K C):=by
 refine F.okX sc_item_at (fun vs H Q E h => ?_) (fun cdv A outer s H vs Q E hr h => ?_)
 ·obtain ⟨a,pa,xs,it,pre,post,st,q,e,rfl,_⟩:=h
  rfl
 obtain ⟨a,pa,xs,it,pre,post,st,q,e,rfl,hS,gd,ln,hpa,ax,sk,rc,ts,np⟩:=h
 refine ⟨_,(@Zj _ _ _ _ _ (@Zg _ 2 _ _ _ _ _ sc_item_at.nd rfl (by trivial) (@pe_callX _ _ _ _ _ _ _ _ _ _ _ g_span_at xw_fn hr.m rfl (Zy (pv 0) (Zy (pv 1) Zx rfl) rfl) (by decide) rfl rfl) rfl (by trivial)) (@Zv _ _ _ (@Zr _ _ _ _ (@Zw _ _ _ _ _ _ _ _ _ _ g_unpacked_between hr.m rfl (Zy (pv 0) (Zy (@Zc _ _ _ _ _ _ _ Zl (pv 2) Zz (fun _ _ => rfl)) (Zy (@Zc _ _ _ _ _ _ _ Zl (pv 2) Zz (fun _ _ => rfl)) Zx rfl) rfl) rfl) (by decide) rfl rfl)))), ?_⟩
 refine ⟨_,rfl,_,rfl,a,pa,xs,it,pre ++ st :: post,rfl,hS,gd,ln,hpa,ax,sk,fun q' e' r' => ?_,fun pre' post' st' q' e' es' rc' ts' d H' s' hd a' C' ec _ => ?_⟩
 ·exfalso
  rw [show pre ++ st :: post = (pre ++ [st]) ++ post by simp,reach_app,reach_snoc rc,ts] at r'
  cases r'
 ·cases ec
  rw [← no_two es' rc ts rc' ts'] at hd
  exact np d H' s' hd
end
abbrev s_law_parts:Stmt:=top 55
abbrev N_law_parts:List Str:=["_law_item_here"]
theorem sc_law_parts:Ze N_law_parts ["_law_item_here"] (Zk s_law_parts):=by trivial
abbrev Vc:Stmt:=top 59
abbrev N_law_steps:List Str:=["_law_item_here"]
theorem sc_law_steps:Ze N_law_steps ["_law_item_here"] (Zk Vc):=by trivial
abbrev s_law_rest:Stmt:=top 60
abbrev N_law_rest:List Str:=["_law_item_here","_law_lengths"]
theorem sc_law_rest:Ze N_law_rest ["_law_item_here"] (Zk s_law_rest):=by trivial
def Z3:IT→List IT
 | .arm _ e => [e]
 | .lst _ _ es => es
 | _ => []
def spParts (K:PySem.W.Frag):Sp:=fun vs H Q _ => ∃ (v:V) (it:IT),vs = [v]∧Yj K H (toD it) v∧GdI it∧(Z3 it).length ≤ 1000000∧∀ (r:Addr) (us:List V) (H':Hp),Zf H H'→H' r = some (.lst us)→Zm K H' (toDs (Z3 it)) us→Q (.ref r) H'
def stp1 (k:Nat):Lb→Vs × Int
 | .no => (.at (k:Int),0)
 | .key x => (.key x,1 + (x.length:Int))
 | .num n => (.field n,1 + (if decide (n > 127) = true then 1 else 0))
def Vh (k:Nat):List Lb→List (Vs × Int)
 | [] => []
 | l :: ls => stp1 k l :: Vh (k + 1) ls
def Za:IT→List (Vs × Int)
 | .arm n _ => [(.arm n,0)]
 | .lst _ ls _ => Vh 0 ls
 | _ => []
def sD (p:Vs × Int):D:=.tup [stD p.1,.int p.2]
theorem stpL_len:∀ (k:Nat) (ls:List Lb),(Vh k ls).length = ls.length
 | _,[] => rfl
 | k,_ :: ls => by simp only [Vh,List.length_cons,stpL_len (k + 1) ls]
theorem stpL_get:∀ {k j:Nat} {ls:List Lb} {l:Lb},ls[j]? = some l→(Vh k ls)[j]? = some (stp1 (k + j) l)
 | _,_,[],_,h => by simp at h
 | k,0,_ :: ls,l,h => by
  simp at h
  subst h
  rfl
 | k,j + 1,_ :: ls,l,h => by
  have:=stpL_get (k:=k + 1) (j:=j) (ls:=ls) (l:=l) (by simpa using h)
  rw [show k + 1 + j = k + (j + 1) by omega] at this
  simpa [Vh] using this
theorem sD_noL (p:Vs × Int):noL (sD p) = true:=by obtain ⟨s,n⟩:=p; cases s <;> rfl
theorem sDs_noL (l:List (Vs × Int)):noLs (l.map sD) = true:=noLs_all fun d m => by
 obtain ⟨p,_,rfl⟩:=List.mem_map.mp m
 exact sD_noL p
def spSteps (K:PySem.W.Frag):Sp:=fun vs H Q _ => ∃ (v:V) (it:IT),vs = [v]∧Yj K H (toD it) v∧GdI it∧(Z3 it).length ≤ 1000000∧∀ (r:Addr) (us:List V) (H':Hp),Zf H H'→H' r = some (.lst us)→Zm K H' ((Za it).map sD) us→Q (.ref r) H'
theorem toDs_take (es:List IT) (k:Nat):noLs ((toDs es).take k) = true:=by
 have h:∀ ds:List D,(∀ d ∈ ds,noL d = true)→noLs ds = true:=by
  intro ds
  induction ds with
  | nil => intro _; rfl
  | cons d ds ih => intro h; simp only [noLs,Bool.and_eq_true]; exact ⟨h d List.mem_cons_self,ih fun e m => h e (List.mem_cons_of_mem _ m)⟩
 refine h _ fun d m => ?_
 have m':=List.mem_of_mem_take m
 rw [Vk] at m'
 obtain ⟨e,_,rfl⟩:=List.mem_map.mp m'
 exact Yf e
theorem Y5 (es:List IT):(toDs es).length = es.length:=by rw [Vk,List.length_map]
theorem toDs_at {es:List IT} {k:Nat} {e:IT} (h:es[k]? = some e):(toDs es)[k]? = some (toD e):=by rw [Vk,List.getElem?_map,h]; rfl
theorem pairL {s:Nat} (hs:s = 1 ∨ s = 2) {l:Lb} (h:LbS s l):(s = 1∧∃ x,l = .key x∧nameOk x) ∨ (s = 2∧∃ n,l = .num n∧1 ≤ n∧n ≤ 999):=by
 rcases h with ⟨e,_⟩ | h | h
 ·omega
 ·exact .inl h
 ·exact .inr h
theorem lg1 {n:Int} (h:n < 128):(Lg n).length = 1:=by unfold Lg; rw [Lf_small 19 h]; rfl
theorem lg2 {n:Int} (h:128 ≤ n) (h2:n ≤ 16383):(Lg n).length = 2:=by
 unfold Lg
 rw [Lf_big 18 h,List.length_cons,Lf_small 18 (by omega)]
 rfl
section
variable {P:Program} {w:World} {K:PySem.W.Frag} {mg:Str→Option Value} {base:Heap} {f:Addr} {fd:FuncData}
theorem ok_law_parts (F:Fun K "_law_parts" "_law_parts" s_law_parts f fd) (m:Bn mg):Yd P w K mg base CX0 1 f fd ["_law_item_here"] (spParts K):=by
 refine F.ok sc_law_parts (fun vs H Q E h => ?_) (fun cdv A outer s H vs Q E hr h => ?_)
 ·obtain ⟨v,_,rfl,_⟩:=h
  rfl
 obtain ⟨v,it,rfl,hd,gd,le,q⟩:=h
 refine ⟨_,(@Zj _ _ _ _ _ (@Yk _ _ _ _ _ _ _ _ (@Zs _ _ _ _ _ _ _ _ Y3 (@Zc _ _ _ _ _ _ _ Zl (pv 0) Zz (fun _ _ => rfl)) Zd (Z0 _)) (@Zv _ _ _ (@Zr _ _ _ _ (@Yu _ _ _ _ _ _ _ _ _ call_list_of rfl m.list b_list (Zy (@Zc _ _ _ _ _ _ _ Zl (pv 0) Zz (fun _ _ => rfl)) Zx rfl) (by trivial) (by trivial) (by trivial) (by trivial)))) Zi) (@Zj _ _ _ _ _ (@Yk _ _ _ _ _ _ _ _ (@Zs _ _ _ _ _ _ _ _ op_in_seq (@Zc _ _ _ _ _ _ _ Zl (pv 0) Zz (fun _ _ => rfl)) (@Z5 _ _ _ _ _ (Zy Zd (Zy Zd Zx rfl) rfl)) rfl) (@Zv _ _ _ (@Zr _ _ _ _ (@Y6 _ N_law_parts (Zk s_law_parts) ["_law_pair"] [none] _ _ _ _ _ _ _ _ _ _ rfl (@pi_tup _ _ _ _ (@Zc _ _ _ _ _ _ _ Zl (pv 0) Zz (fun _ _ => rfl))) ⟨rfl,rfl,by decide +kernel,by decide +kernel⟩ (fun _ _ _ => (@Zh _ 0 _ _ (show List.Nodup (["_law_pair"]:List Str) from by decide +kernel) rfl (Or.inl rfl) (by trivial))) (fun _ _ _ => Vz) (fun _ _ _ => (@Zc _ _ _ _ _ _ _ Zl (pv 0) Zz (fun _ _ => rfl))) (by trivial)))) Zi) (@Zj _ _ _ _ _ (@Yk _ _ _ _ _ _ _ _ (@Zs _ _ _ _ _ _ _ _ Y3 (@Zc _ _ _ _ _ _ _ Zl (pv 0) Zz (fun _ _ => rfl)) Zd (Z0 _)) (@Zv _ _ _ (@Zr _ _ _ _ (@Yl _ _ _ _ (Zy (@Zc _ _ _ _ _ _ _ Zl (pv 0) Zz (fun _ _ => rfl)) Zx rfl)))) Zi) (@Zv _ _ _ (@Zr _ _ _ _ (@Yl _ _ _ _ Zx)))))), ?_⟩
 cases it with
 | whole n =>
  obtain ⟨p,x,y,rfl,hp,rfl,hy⟩:=isD2 hd
  refine ⟨_,rfl,p,_,_,_,rfl,rfl,hp,rfl,rfl,_,rfl,Yr (by decide +kernel) ?_⟩
  refine ⟨_,rfl,p,_,_,_,rfl,rfl,hp,rfl,(sz 2),fun t2 h2 => ⟨t2,_,rfl,.inr (Z9.of Zq),rfl,rfl,_,rfl,Yr (by decide +kernel) ?_⟩⟩
  have s2:=Zf.lay (o:=.tup [.str "map",.str "rec"]) h2
  exact ⟨_,rfl,p,_,_,_,rfl,rfl,s2.up _ _ hp,rfl,rfl,_,rfl,Yr (by decide +kernel) ⟨(sz 0),fun l hl => q l [] _ (s2.trans (Zf.lay hl)) Zq rfl⟩⟩
 | text n =>
  obtain ⟨p,x,y,rfl,hp,rfl,hy⟩:=isD2 hd
  refine ⟨_,rfl,p,_,_,_,rfl,rfl,hp,rfl,rfl,_,rfl,Yr (by decide +kernel) ?_⟩
  refine ⟨_,rfl,p,_,_,_,rfl,rfl,hp,rfl,(sz 2),fun t2 h2 => ⟨t2,_,rfl,.inr (Z9.of Zq),rfl,rfl,_,rfl,Yr (by decide +kernel) ?_⟩⟩
  have s2:=Zf.lay (o:=.tup [.str "map",.str "rec"]) h2
  exact ⟨_,rfl,p,_,_,_,rfl,rfl,s2.up _ _ hp,rfl,rfl,_,rfl,Yr (by decide +kernel) ⟨(sz 0),fun l hl => q l [] _ (s2.trans (Zf.lay hl)) Zq rfl⟩⟩
 | arm n e =>
  obtain ⟨p,x,y,z,rfl,hp,rfl,hy,hz⟩:=isD3 hd
  refine ⟨_,rfl,p,_,_,_,rfl,rfl,hp,rfl,rfl,_,rfl,Yr (by decide +kernel) ?_⟩
  refine ⟨_,rfl,p,_,_,_,rfl,rfl,hp,rfl,(sz 2),fun t2 h2 => ⟨t2,_,rfl,.inr (Z9.of Zq),rfl,rfl,_,rfl,Yr (by decide +kernel) ?_⟩⟩
  have s2:=Zf.lay (o:=.tup [.str "map",.str "rec"]) h2
  exact ⟨_,rfl,p,_,_,_,rfl,rfl,s2.up _ _ hp,rfl,rfl,_,rfl,iteY (by decide +kernel) ⟨_,rfl,p,_,_,_,rfl,rfl,s2.up _ _ hp,rfl,(sz 1),fun l hl => q l _ _ (s2.trans (Zf.lay hl)) Zq (Zm.one (Yj.up (s2.up.trans (Ya hl)) _ _ (Yf e) hz))⟩⟩
 | lst st ls es =>
  obtain ⟨p,x,y,rfl,hp,rfl,hy⟩:=isD2 hd
  obtain ⟨c,ws,rfl,hc,ar⟩:=hy
  obtain ⟨hs2,hl,gl,gs⟩:=gd
  replace le:es.length ≤ 1000000:=le
  by_cases s0:st = 0
  ·subst s0
   have el:ls = List.replicate es.length .no:=List.eq_replicate_iff.mpr ⟨hl,gl⟩
   rw [el,prt_no _ _ (Y5 es)] at ar
   exact ⟨_,rfl,p,_,_,_,rfl,rfl,hp,rfl,rfl,_,rfl,iteY (decide_eq_true rfl) ⟨_,rfl,p,_,_,_,rfl,rfl,hp,rfl,c,ws,rfl,.inr hc,fun l hl' => q l ws _ (Zf.lay hl') Zq (Zm.up (Ya hl') _ _ (by have:=toDs_take es es.length; rwa [← Y5 es,List.take_length] at this) ar)⟩⟩
  ·have hs:st = 1 ∨ st = 2:=by omega
   refine ⟨_,rfl,p,_,_,_,rfl,rfl,hp,rfl,rfl,_,rfl,Yr (by rcases hs with rfl | rfl <;> decide +kernel) ?_⟩
   refine ⟨_,rfl,p,_,_,_,rfl,rfl,hp,rfl,(sz 2),fun t2 h2 => ⟨t2,_,rfl,.inr (Z9.of Zq),rfl,rfl,_,rfl,iteY (by rcases hs with rfl | rfl <;> decide +kernel) ?_⟩⟩
   have s2:=Zf.lay (o:=.tup [.str "map",.str "rec"]) h2
   have hc2:=s2.up (K:=K) _ _ hc
   refine ⟨_,rfl,p,_,_,_,rfl,rfl,s2.up _ _ hp,rfl,c,rfl,⟨_,hc2⟩,fun Dd fp sx hD => ?_⟩
   have wl:ws.length = es.length:=by rw [← ar.length,prtDs_len (by rw [Y5]; exact hl),Y5]
   have uD:∀ ys:List V,Up K (Zo H t2 (.tup [.str "map",.str "rec"])) (Zo (Zo H t2 (.tup [.str "map",.str "rec"])) Dd (.lst ys)):=fun ys => Ya hD
   refine comp_tup (K:=K) (a:=c) (xs:=ws) (fun k ys σ H5 => H5 = Zo (Zo H t2 (.tup [.str "map",.str "rec"])) Dd (.lst ys)∧(∃ o,σ = [o])∧Zm K (Zo H t2 (.tup [.str "map",.str "rec"])) ((toDs es).take k) ys) ⟨rfl,⟨_,rfl⟩,rfl⟩ ?_ ?_ ?_
   ·rintro k ys σ H5 hk ⟨rfl,_⟩
    exact ⟨uD ys _ _ hc2,Zq⟩
   ·rintro k x ys σ H5 hx ⟨rfl,⟨o,rfl⟩,ah⟩
    have hk:k < es.length:=by have:=(List.getElem?_eq_some_iff.mp hx).1; omega
    obtain ⟨lb,hL⟩:∃ lb,ls[k]? = some lb:=⟨_,List.getElem?_eq_getElem (by omega)⟩
    obtain ⟨ek,hEk⟩:∃ ek,es[k]? = some ek:=⟨_,List.getElem?_eq_getElem hk⟩
    have hE:=toDs_at hEk
    obtain ⟨x',hx',dx⟩:=ar.get (prtDs_get hL hE)
    rw [hx] at hx'
    cases hx'
    have yl:ys.length = k:=by rw [← ah.length,List.length_take,Y5]; omega
    obtain ⟨t,u2,ht,hu2⟩:∃ t u1u2,(∃ u1,x = .ref t∧Z9 K H t [u1,u1u2])∧Yj K H (toD ek) u1u2:=by
     rcases pairL hs (GdL.at hs2 gl _ (List.mem_of_getElem? hL)) with ⟨_,z,ez,_⟩ | ⟨_,z,ez,_⟩ <;> rw [ez] at dx <;> (obtain ⟨t,u1,u2,rfl,ht,_,h2⟩:=isD2 dx; exact ⟨t,u2,⟨u1,rfl,ht⟩,h2⟩)
    obtain ⟨u1,rfl,ht⟩:=ht
    refine nameT ⟨_,rfl,t,_,_,_,rfl,rfl,uD ys _ _ (s2.up _ _ ht),rfl,Zq, ?_, ?_,⟨_,rfl⟩, ?_⟩
    ·have:=sizeLine_eq
     omega
    ·rw [upd_upd]
    ·rw [List.take_succ,hE]
     exact Zm.append ah (Zm.one (Yj.up s2.up _ _ (Yf ek) hu2))
   rintro ys σ H5 ⟨rfl,_,ah⟩
   have e5:(toDs es).take ws.length = toDs es:=by rw [wl, ← Y5 es,List.take_length]
   rw [e5] at ah
   refine q Dd ys _ (s2.trans (Zf.lay hD)) Zq (Zm.up (uD ys) _ _ (by have:=toDs_take es es.length; rwa [← Y5 es,List.take_length] at this) ah)
end
theorem st_at {ls:List Lb} {k:Nat} {l:Lb} (h:ls[k]? = some l):((Vh 0 ls).map sD).take (k + 1) = ((Vh 0 ls).map sD).take k ++ [sD (stp1 (0 + k) l)]:=by
 rw [List.take_succ,List.getElem?_map,stpL_get h]
 rfl
section
variable {P:Program} {w:World} {K:PySem.W.Frag} {mg:Str→Option Value} {base:Heap} {f:Addr} {fd:FuncData}
theorem steps_next {H H5:Hp} {Dd t1 t2:Addr} {ys:List V} {ds:List D} {st:Vs} {a b:V} {mm:Int} (hD:H Dd = none) (s5:Zf H H5) (h5:H5 Dd = some (.lst ys)) (nl:noLs ds = true) (ar:Zm K H5 ds ys) (ha:a = .str (stW st)) (hb:Yj K H5 (stV st) b) (h1:H5 t1 = none) (h2:Zo H5 t1 (.tup [a,b]) t2 = none) :
  Zo (Zo H5 t1 (.tup [a,b])) t2 (.tup [.ref t1,.int mm]) Dd = some (.lst ys)∧Zf H (Zo (Zo (Zo H5 t1 (.tup [a,b])) t2 (.tup [.ref t1,.int mm])) Dd (.lst (ys ++ [.ref t2])))∧Zm K (Zo (Zo (Zo H5 t1 (.tup [a,b])) t2 (.tup [.ref t1,.int mm])) Dd (.lst (ys ++ [.ref t2]))) (ds ++ [sD (st,mm)]) (ys ++ [.ref t2]):=by
 have n1:Dd ≠ t1:=Zu h5 h1
 have n2:Dd ≠ t2:=Zu (by rw [Zt n1]; exact h5) h2
 have n12:t1 ≠ t2:=Zu Zq h2
 have hx:Zo (Zo H5 t1 (.tup [a,b])) t2 (.tup [.ref t1,.int mm]) Dd = some (.lst ys):=by rw [Zt n2,Zt n1]; exact h5
 have u:Up K H5 (Zo (Zo (Zo H5 t1 (.tup [a,b])) t2 (.tup [.ref t1,.int mm])) Dd (.lst (ys ++ [.ref t2]))):=((Ya (K:=K) h1 (o:=.tup [a,b])).trans (Ya h2 (o:=.tup [.ref t1,.int mm]))).trans (up_set hx)
 refine ⟨hx,((s5.trans (Zf.lay h1)).trans (Zf.lay h2)).put hD,Zm.append (Zm.up u _ _ nl ar) (Zm.one ⟨t2,_,rfl,Z9.of ?_,Zm.two ⟨t1,_,rfl,Z9.of ?_,Zm.two (show a = .str (stW st) from ha) (Yj.up u _ _ (by cases st <;> rfl) hb)⟩ rfl⟩)⟩
 ·rw [Zt (Ne.symm n2)]; exact Zq
 ·rw [Zt (Ne.symm n1),Zt n12]; exact Zq
theorem ok_law_steps (F:Fun K "_law_steps" "_law_steps" Vc f fd) (m:Bn mg):Yd P w K mg base CX0 1 f fd ["_law_item_here"] (spSteps K):=by
 refine F.ok sc_law_steps (fun vs H Q E h => ?_) (fun cdv A outer s H vs Q E hr h => ?_)
 ·obtain ⟨v,_,rfl,_⟩:=h
  rfl
 obtain ⟨v,it,rfl,hd,gd,le,q⟩:=h
 refine ⟨_,(@Zj _ _ _ _ _ (@Yk _ _ _ _ _ _ _ _ (@Zs _ _ _ _ _ _ _ _ Y3 (@Zc _ _ _ _ _ _ _ Zl (pv 0) Zz (fun _ _ => rfl)) Zd (Z0 _)) (@Zv _ _ _ (@Zr _ _ _ _ (@Yl _ _ _ _ (Zy (@Z5 _ _ _ _ _ (Zy (@Z5 _ _ _ _ _ (Zy Zd (Zy (@Zc _ _ _ _ _ _ _ Zl (pv 0) Zz (fun _ _ => rfl)) Zx rfl) rfl)) (Zy Zz Zx rfl) rfl)) Zx rfl)))) Zi) (@Zj _ _ _ _ _ (@Yk _ _ _ _ _ _ _ _ (@Zs _ _ _ _ _ _ _ _ Y3 (@Zc _ _ _ _ _ _ _ Zl (pv 0) Zz (fun _ _ => rfl)) Zd (Z0 _)) (@Zv _ _ _ (@Zr _ _ _ _ (@Y6 _ N_law_steps (Zk Vc) ["_law_k"] [none] _ _ _ _ _ _ _ _ _ _ rfl (@Vr _ _ _ _ _ _ rfl m.range (Zy (@Zp _ _ _ _ _ _ _ _ _ Z2 rfl m.len b_len (Zy (@Zc _ _ _ _ _ _ _ Zl (pv 0) Zz (fun _ _ => rfl)) Zx rfl) (by decide) (by decide) rfl rfl) Zx rfl) (by trivial)) ⟨rfl,rfl,by decide +kernel,by decide +kernel⟩ (fun _ _ _ => (@Zh _ 0 _ _ (show List.Nodup (["_law_k"]:List Str) from by decide +kernel) rfl (Or.inl rfl) (by trivial))) (fun _ _ _ => Vz) (fun _ _ _ => (@Z5 _ _ _ _ _ (Zy (@Z5 _ _ _ _ _ (Zy Zd (Zy (pv 0) Zx rfl) rfl)) (Zy Zz Zx rfl) rfl))) (by trivial)))) Zi) (@Zj _ _ _ _ _ (@Yk _ _ _ _ _ _ _ _ (@Zs _ _ _ _ _ _ _ _ Y3 (@Zc _ _ _ _ _ _ _ Zl (pv 0) Zz (fun _ _ => rfl)) Zd (Z0 _)) (@Zv _ _ _ (@Zr _ _ _ _ (@Y6 _ N_law_steps (Zk Vc) ["_law_pair"] [none] _ _ _ _ _ _ _ _ _ _ rfl (@pi_tup _ _ _ _ (@Zc _ _ _ _ _ _ _ Zl (pv 0) Zz (fun _ _ => rfl))) ⟨rfl,rfl,by decide +kernel,by decide +kernel⟩ (fun _ _ _ => (@Zh _ 0 _ _ (show List.Nodup (["_law_pair"]:List Str) from by decide +kernel) rfl (Or.inl rfl) (by trivial))) (fun _ _ _ => Vz) (fun _ _ _ => (@Z5 _ _ _ _ _ (Zy (@Z5 _ _ _ _ _ (Zy Zd (Zy (@Zc _ _ _ _ _ _ _ Zl (pv 0) Zz (fun _ _ => rfl)) Zx rfl) rfl)) (Zy (@Zb _ _ _ _ _ _ _ _ Z4 Zz (@Zp _ _ _ _ _ _ _ _ _ call_len_str rfl m.len b_len (Zy (@Zc _ _ _ _ _ _ _ Zl (pv 0) Zz (fun _ _ => rfl)) Zx rfl) (by decide) (by decide) rfl rfl)) Zx rfl) rfl))) (by trivial)))) Zi) (@Zj _ _ _ _ _ (@Yk _ _ _ _ _ _ _ _ (@Zs _ _ _ _ _ _ _ _ Y3 (@Zc _ _ _ _ _ _ _ Zl (pv 0) Zz (fun _ _ => rfl)) Zd (Z0 _)) (@Zv _ _ _ (@Zr _ _ _ _ (@Y6 _ N_law_steps (Zk Vc) ["_law_pair"] [none] _ _ _ _ _ _ _ _ _ _ rfl (@pi_tup _ _ _ _ (@Zc _ _ _ _ _ _ _ Zl (pv 0) Zz (fun _ _ => rfl))) ⟨rfl,rfl,by decide +kernel,by decide +kernel⟩ (fun _ _ _ => (@Zh _ 0 _ _ (show List.Nodup (["_law_pair"]:List Str) from by decide +kernel) rfl (Or.inl rfl) (by trivial))) (fun _ _ _ => Vz) (fun _ _ _ => (@Z5 _ _ _ _ _ (Zy (@Z5 _ _ _ _ _ (Zy Zd (Zy (@Zc _ _ _ _ _ _ _ Zl (pv 0) Zz (fun _ _ => rfl)) Zx rfl) rfl)) (Zy (@Zb _ _ _ _ _ _ _ _ Z4 Zz (@Yu _ _ _ _ _ _ _ _ _ call_int1 rfl m.int b_int (Zy (@pe_cmpR _ _ _ _ _ _ _ _ op_gt (@Zc _ _ _ _ _ _ _ Zl (pv 0) Zz (fun _ _ => rfl)) Zz (Z0 _)) Zx rfl) (by trivial) (by trivial) (by trivial) (by trivial))) Zx rfl) rfl))) (by trivial)))) Zi) (@Zv _ _ _ (@Zr _ _ _ _ (@Yl _ _ _ _ Zx))))))), ?_⟩
 cases it with
 | whole n =>
  obtain ⟨p,x,y,rfl,hp,rfl,hy⟩:=isD2 hd
  refine ⟨_,rfl,p,_,_,_,rfl,rfl,hp,rfl,rfl,_,rfl,Yr (by decide +kernel) ⟨_,rfl,p,_,_,_,rfl,rfl,hp,rfl,rfl,_,rfl,Yr (by decide +kernel) ⟨_,rfl,p,_,_,_,rfl,rfl,hp,rfl,rfl,_,rfl,Yr (by decide +kernel) ?_⟩⟩⟩
  exact ⟨_,rfl,p,_,_,_,rfl,rfl,hp,rfl,rfl,_,rfl,Yr (by decide +kernel) ⟨(sz 0),fun l hl => q l [] _ (Zf.lay hl) Zq rfl⟩⟩
 | text n =>
  obtain ⟨p,x,y,rfl,hp,rfl,hy⟩:=isD2 hd
  refine ⟨_,rfl,p,_,_,_,rfl,rfl,hp,rfl,rfl,_,rfl,Yr (by decide +kernel) ⟨_,rfl,p,_,_,_,rfl,rfl,hp,rfl,rfl,_,rfl,Yr (by decide +kernel) ⟨_,rfl,p,_,_,_,rfl,rfl,hp,rfl,rfl,_,rfl,Yr (by decide +kernel) ?_⟩⟩⟩
  exact ⟨_,rfl,p,_,_,_,rfl,rfl,hp,rfl,rfl,_,rfl,Yr (by decide +kernel) ⟨(sz 0),fun l hl => q l [] _ (Zf.lay hl) Zq rfl⟩⟩
 | arm n e =>
  obtain ⟨p,x,y,z,rfl,hp,rfl,rfl,hz⟩:=isD3 hd
  refine ⟨_,rfl,p,_,_,_,rfl,rfl,hp,rfl,rfl,_,rfl,iteY (by decide +kernel) ⟨_,rfl,p,_,_,_,rfl,rfl,hp,rfl,(sz 2),fun t1 h1 => ⟨(sz 2),fun t2 h2 => ⟨(sz 1),fun l hl => ?_⟩⟩⟩⟩
  have n12:t1 ≠ t2:=Zu Zq h2
  refine q l _ _ ((Zf.lay h1).trans ((Zf.lay h2).trans (Zf.lay hl))) Zq (Zm.one ⟨t2,_,rfl,Ya hl _ _ (Z9.of Zq),Zm.two ⟨t1,_,rfl,Ya hl _ _ (Z9.of (by rw [Zt n12]; exact Zq)),Zm.two rfl rfl⟩ rfl⟩)
 | lst st ls es =>
  obtain ⟨p,x,y,rfl,hp,rfl,hy⟩:=isD2 hd
  obtain ⟨c,ws,rfl,hc,ar⟩:=hy
  obtain ⟨hs2,hl,gl,gs⟩:=gd
  replace le:es.length ≤ 1000000:=le
  have wl:ws.length = es.length:=by rw [← ar.length,prtDs_len (by rw [Y5]; exact hl),Y5]
  have hz:∀ n:Nat,n ≤ 1000000→n < sizeLine:=fun n h => by have:=sizeLine_eq; omega
  have yl:∀ {k:Nat} {ys:List V} {H5:Hp},k < es.length→Zm K H5 (((Vh 0 ls).map sD).take k) ys→ys.length < sizeLine:=fun {k ys H5} hk h => hz _ (by
   rw [← h.length,List.length_take]; omega)
  have fin:∀ {Dd:Addr} {ys:List V} {H5:Hp} {n:Nat},n = es.length→Zf H H5→H5 Dd = some (.lst ys)→Zm K H5 (((Vh 0 ls).map sD).take n) ys→Q (.ref Dd) H5:=fun {Dd ys H5 n} e s5 h5 a5 => by
   refine q Dd ys H5 s5 h5 ?_
   have l5:((Vh 0 ls).map sD).take n = (Vh 0 ls).map sD:=List.take_of_length_le (by rw [List.length_map,stpL_len]; omega)
   rw [l5] at a5
   exact a5
  refine ⟨_,rfl,p,_,_,_,rfl,rfl,hp,rfl,rfl,_,rfl,Yr (vs_ne (srt_ne st).2.2) ?_⟩
  have key:∀ j:Nat,j < es.length→∃ lb ek,ls[j]? = some lb∧es[j]? = some ek∧∀ x,ws[j]? = some x→Yj K H (prtD lb (toD ek)) x:=fun j hj => by
   obtain ⟨lb,hL⟩:∃ lb,ls[j]? = some lb:=⟨_,List.getElem?_eq_getElem (by omega)⟩
   obtain ⟨ek,hEk⟩:∃ ek,es[j]? = some ek:=⟨_,List.getElem?_eq_getElem hj⟩
   refine ⟨lb,ek,hL,hEk,fun x hx => ?_⟩
   obtain ⟨x',hx',dx⟩:=ar.get (prtDs_get hL (toDs_at hEk))
   rw [hx] at hx'
   cases hx'
   exact dx
  by_cases s0:st = 0
  ·subst s0
   refine ⟨_,rfl,p,_,_,_,rfl,rfl,hp,rfl,rfl,_,rfl,iteY (decide_eq_true rfl) ⟨_,rfl,p,_,_,_,rfl,rfl,hp,rfl,c,ws,rfl,.inr hc,_,rfl,by omega,by omega,fun Dd fp sx hD => ?_⟩⟩
   refine comp_range (n:=ws.length) (fun k ys σ H5 => Zf H H5∧H5 Dd = some (.lst ys)∧(∃ o,σ = [o])∧Zm K H5 (((Vh 0 ls).map sD).take k) ys) ⟨Zf.lay hD,Zq,⟨_,rfl⟩,rfl⟩ ?_ ?_ ?_
   ·rintro k ys σ H5 hk ⟨_,h5,_⟩
    exact h5
   ·rintro k ys σ H5 hk ⟨s5,h5,⟨o,rfl⟩,a5⟩
    obtain ⟨lb,ek,hL,hE,_⟩:=key k (by omega)
    have en:lb = .no:=gl _ (List.mem_of_getElem? hL)
    subst en
    refine nameT ⟨_,rfl,(sz 2),fun t1 h1 => ⟨(sz 2),fun t2 h2 => ?_⟩⟩
    obtain ⟨e1,e2,e3⟩:=steps_next (st:=.at ((0 + k:Nat):Int)) (mm:=0) hD s5 h5 (by rw [← List.map_take]; exact sDs_noL _) a5 rfl (show V.int (0 + (k:Int)) = V.int ((0 + k:Nat):Int) by rw [Nat.zero_add,Int.zero_add]) h1 h2
    refine ⟨e1,yl (by omega) a5,e2,Zq,⟨_,rfl⟩, ?_⟩
    rw [st_at hL]
    exact e3
   ·rintro ys σ H5 ⟨s5,h5,_,a5⟩
    exact fin wl s5 h5 a5
  ·refine ⟨_,rfl,p,_,_,_,rfl,rfl,hp,rfl,rfl,_,rfl,Yr (by rcases (show st = 1 ∨ st = 2 by omega) with rfl | rfl <;> decide +kernel) ?_⟩
   by_cases s1:st = 1
   ·subst s1
    refine ⟨_,rfl,p,_,_,_,rfl,rfl,hp,rfl,rfl,_,rfl,iteY (decide_eq_true rfl) ⟨_,rfl,p,_,_,_,rfl,rfl,hp,rfl,c,rfl,⟨_,hc⟩,fun Dd fp sx hD => ?_⟩⟩
    refine comp_tup (K:=K) (a:=c) (xs:=ws) (fun k ys σ H5 => Zf H H5∧H5 Dd = some (.lst ys)∧(∃ o,σ = [o])∧Zm K H5 (((Vh 0 ls).map sD).take k) ys) ⟨Zf.lay hD,Zq,⟨_,rfl⟩,rfl⟩ ?_ ?_ ?_
    ·rintro k ys σ H5 hk ⟨s5,h5,_⟩
     exact ⟨s5.up _ _ hc,h5⟩
    ·rintro k x ys σ H5 hx ⟨s5,h5,⟨o,rfl⟩,a5⟩
     have hk:k < es.length:=by have:=(List.getElem?_eq_some_iff.mp hx).1; omega
     obtain ⟨lb,ek,hL,hE,dx⟩:=key k hk
     replace dx:=dx x hx
     rcases GdL.at hs2 gl _ (List.mem_of_getElem? hL) with ⟨z,_⟩ | ⟨_,z,rfl,nz⟩ | ⟨z,_⟩
     ·omega
     ·obtain ⟨t,u1,u2,rfl,ht,rfl,_⟩:=isD2 dx
      have ht5:=s5.up (K:=K) _ _ ht
      refine nameT ⟨_,rfl,t,_,_,_,rfl,rfl,ht5,rfl,(sz 2),fun t1 h1 => ?_⟩
      have ht6:=(Ya h1 (o:=.tup [.str "key",.str z])) _ _ ht5
      refine ⟨_,rfl,t,_,_,_,rfl,rfl,ht6,rfl,z,rfl,by have:=nz.2.1; have:=sizeLine_eq; omega,_,_,rfl,rfl,(sz 2),fun t2 h2 => ?_⟩
      obtain ⟨e1,e2,e3⟩:=steps_next (st:=.key z) (mm:=1 + (z.length:Int)) hD s5 h5 (by rw [← List.map_take]; exact sDs_noL _) a5 rfl rfl h1 h2
      refine ⟨e1,yl hk a5,e2,Zq,⟨_,rfl⟩, ?_⟩
      rw [st_at hL]
      exact e3
     ·omega
    ·rintro ys σ H5 ⟨s5,h5,_,a5⟩
     exact fin wl s5 h5 a5
   ·have s2:st = 2:=by omega
    subst s2
    refine ⟨_,rfl,p,_,_,_,rfl,rfl,hp,rfl,rfl,_,rfl,Yr (by decide +kernel) ?_⟩
    refine ⟨_,rfl,p,_,_,_,rfl,rfl,hp,rfl,rfl,_,rfl,iteY (decide_eq_true rfl) ⟨_,rfl,p,_,_,_,rfl,rfl,hp,rfl,c,rfl,⟨_,hc⟩,fun Dd fp sx hD => ?_⟩⟩
    refine comp_tup (K:=K) (a:=c) (xs:=ws) (fun k ys σ H5 => Zf H H5∧H5 Dd = some (.lst ys)∧(∃ o,σ = [o])∧Zm K H5 (((Vh 0 ls).map sD).take k) ys) ⟨Zf.lay hD,Zq,⟨_,rfl⟩,rfl⟩ ?_ ?_ ?_
    ·rintro k ys σ H5 hk ⟨s5,h5,_⟩
     exact ⟨s5.up _ _ hc,h5⟩
    ·rintro k x ys σ H5 hx ⟨s5,h5,⟨o,rfl⟩,a5⟩
     have hk:k < es.length:=by have:=(List.getElem?_eq_some_iff.mp hx).1; omega
     obtain ⟨lb,ek,hL,hE,dx⟩:=key k hk
     replace dx:=dx x hx
     rcases GdL.at hs2 gl _ (List.mem_of_getElem? hL) with ⟨z,_⟩ | ⟨z,_⟩ | ⟨_,n,rfl,n1,n9⟩
     ·omega
     ·omega
     ·obtain ⟨t,u1,u2,rfl,ht,rfl,_⟩:=isD2 dx
      have ht5:=s5.up (K:=K) _ _ ht
      refine nameT ⟨_,rfl,t,_,_,_,rfl,rfl,ht5,rfl,(sz 2),fun t1 h1 => ?_⟩
      have ht6:=(Ya h1 (o:=.tup [.str "field",.int n])) _ _ ht5
      refine ⟨_,rfl,t,_,_,_,rfl,rfl,ht6,rfl,_,_,rfl,rfl,.inr ⟨_,rfl, ?_⟩⟩
      refine ⟨_,_,rfl,rfl,(sz 2),fun t2 h2 => ?_⟩
      obtain ⟨e1,e2,e3⟩:=steps_next (st:=.field n) (mm:=1 + (if decide (n > 127) = true then 1 else 0)) hD s5 h5 (by rw [← List.map_take]; exact sDs_noL _) a5 rfl rfl h1 h2
      refine ⟨e1,yl hk a5,e2,Zq,⟨_,rfl⟩, ?_⟩
      rw [st_at hL]
      exact e3
    ·rintro ys σ H5 ⟨s5,h5,_,a5⟩
     exact fin wl s5 h5 a5
end
def lbs (ls:List Lb):List Int:=ls.map fun l => ((lbB l).length:Int)
theorem lbs_at {ls:List Lb} {k:Nat} {l:Lb} (h:ls[k]? = some l):(lbs ls).take (k + 1) = (lbs ls).take k ++ [((lbB l).length:Int)]:=by
 rw [List.take_succ]
 unfold lbs
 rw [List.getElem?_map,h]
 rfl
theorem key_len {z:Str} (h:nameOk z):((lbB (.key z)).length:Int) = 1 + (z.length:Int):=by
 show ((sgB z).length:Int) = _
 unfold sgB
 rw [List.length_append,Vy,lg1 (by have:=h.2.1; omega)]
 omega
theorem num_len {n:Int} (h0:1 ≤ n) (h:n ≤ 999):((lbB (.num n)).length:Int) = 1 + (if decide (n > 127) = true then 1 else 0):=by
 show ((Lg n).length:Int) = _
 by_cases c:n > 127
 ·rw [lg2 (by omega) (by omega),decide_eq_true c]; rfl
 ·rw [lg1 (by omega),decide_eq_false c]; rfl
theorem stp_len {s k:Nat} {l:Lb} (h:LbS s l):(stp1 k l).2 = ((lbB l).length:Int):=by
 rcases h with ⟨_,rfl⟩ | ⟨_,x,rfl,hx⟩ | ⟨_,n,rfl,h1,h2⟩
 ·rfl
 ·exact (key_len hx).symm
 ·exact (num_len h1 h2).symm
theorem es_len:∀ {ls:List Lb} {es:List IT},ls.length = es.length→es.length ≤ (Yy ls es).length
 | [],[],_ => Nat.zero_le _
 | [],_ :: _,h => by simp at h
 | _ :: _,[],_ => Nat.zero_le _
 | l :: ls,e :: es,h => by
  have:=es_len (ls:=ls) (es:=es) (by simpa using h)
  have:=byI_ne e
  simp only [Yy,List.length_cons,List.length_append]; omega
theorem sums:∀ {ls:List Lb} {es:List IT},ls.length = es.length→(es.map fun e => ((Z8 e).length:Int)).sum + (lbs ls).sum = ((Yy ls es).length:Int)
 | [],[],_ => rfl
 | [],_ :: _,h => by simp at h
 | _ :: _,[],h => by simp at h
 | l :: ls,e :: es,h => by
  have ih:=sums (ls:=ls) (es:=es) (by simpa using h)
  unfold lbs at ih ⊢
  simp only [List.map_cons,List.sum_cons,Yy,List.length_append]
  omega
theorem map_take {α:Type} (g:α→Int) {l:List α} {k:Nat} {a:α} (h:l[k]? = some a):(l.map g).take (k + 1) = (l.map g).take k ++ [g a]:=by
 rw [List.take_succ,List.getElem?_map,h]
 rfl
theorem byI_mem_le:∀ {ls:List Lb} {es:List IT} {k:Nat} {e:IT},ls.length = es.length→es[k]? = some e→(Z8 e).length ≤ (Yy ls es).length
 | [],[],k,e,_,h => by simp at h
 | [],_ :: _,k,e,h,_ => by simp at h
 | _ :: _,[],k,e,h,_ => by simp at h
 | l :: ls,d :: es,0,e,_,h => by cases h; simp only [Yy,List.length_append]; omega
 | l :: ls,d :: es,k + 1,e,hl,h => by
  have:=byI_mem_le (ls:=ls) (es:=es) (k:=k) (by simpa using hl) (by simpa using h)
  simp only [Yy,List.length_append]; omega
def spRest (K:PySem.W.Frag):Sp:=fun vs H Q _ => ∃ (v:V) (s:Nat) (ls:List Lb) (es:List IT),vs = [v]∧Yj K H (toD (.lst s ls es)) v∧GdI (.lst s ls es)∧dpI (.lst s ls es) ≤ 10∧(Yy ls es).length ≤ 1000000∧∀ H',Zf H H'→Q (.int ((Yy ls es).length:Int)) H'
section
variable {P:Program} {w:World} {K:PySem.W.Frag} {mg:Str→Option Value} {base:Heap} {f:Addr} {fd:FuncData}
theorem ok_law_rest (F:Fun K "_law_rest" "_law_rest" s_law_rest f fd) (m:Bn mg) (g_law_parts:Fn P w K mg base 1 "_law_parts" ["_law_item_here"] (spParts K)) (g_law_steps:Fn P w K mg base 1 "_law_steps" ["_law_item_here"] (spSteps K)) (g_law_packed:Fn P w K mg base 13 "_law_packed" ["_law_item_here"] (spLPack K (9 + 1))) :
  Yd P w K mg base CX0 15 f fd ["_law_item_here"] (spRest K):=by
 refine F.ok sc_law_rest (fun vs H Q E h => ?_) (fun cdv A outer s H vs Q E hr h => ?_)
 ·obtain ⟨v,_,_,_,rfl,_⟩:=h
  rfl
 obtain ⟨v,st,ls,es,rfl,hd,gd,dp,ln,q⟩:=h
 obtain ⟨hs2,hl,gl,gs⟩:=id gd
 have le:=es_len hl
 have ll:ls.length ≤ 1000000:=by omega
 have hz:∀ n:Nat,n ≤ 1000000→n < sizeLine:=fun n h => by have:=sizeLine_eq; omega
 refine ⟨_,(@Zj _ _ _ _ _ (@ps_setCompI _ 1 N_law_rest (Zk s_law_rest) ["_law_part"] [none] _ _ _ _ _ _ _ _ _ _ _ _ _ sc_law_rest.nd rfl (by trivial) rfl (@pi_list _ _ _ _ (@Zw _ _ _ _ _ _ _ _ _ _ g_law_parts hr.m rfl (Zy (pv 0) Zx rfl) (by decide) rfl rfl)) ⟨rfl,rfl,by decide +kernel,by decide +kernel⟩ (fun _ _ _ => (@Zh _ 0 _ _ (show List.Nodup (["_law_part"]:List Str) from by decide +kernel) rfl (Or.inl rfl) (by trivial))) (fun _ _ _ => Vz) (fun _ _ _ => (@Zp _ _ _ _ _ _ _ _ _ Z2 rfl m.len b_len (Zy (@Zw _ _ _ _ _ _ _ _ _ _ g_law_packed hr.m rfl (Zy (pv 0) Zx rfl) (by decide) rfl rfl) Zx rfl) (by decide) (by decide) rfl rfl)) (by trivial) (by trivial) (by trivial)) (@Zv _ _ _ (@Zr _ _ _ _ (@Zb _ _ _ _ _ _ _ _ Z4 (@Zp _ _ _ _ _ _ _ _ _ (call_sumI rfl) rfl m.sum b_sum (Zy (pv 1) Zx rfl) (by decide) (by decide) rfl rfl) (@Zp _ _ _ _ _ _ _ _ _ (call_sumI rfl) rfl m.sum b_sum (Zy (@Y6 _ N_law_rest (Zk s_law_rest) ["_law_step"] [none] _ _ _ _ _ _ _ _ _ _ rfl (@pi_list _ _ _ _ (@Zw _ _ _ _ _ _ _ _ _ _ g_law_steps hr.m rfl (Zy (pv 0) Zx rfl) (by decide) rfl rfl)) ⟨rfl,rfl,by decide +kernel,by decide +kernel⟩ (fun _ _ _ => (@Zh _ 0 _ _ (show List.Nodup (["_law_step"]:List Str) from by decide +kernel) rfl (Or.inl rfl) (by trivial))) (fun _ _ _ => Vz) (fun _ _ _ => (@Zc _ _ _ _ _ _ _ Zl (pv 0) Zz (fun _ _ => rfl))) (by trivial)) Zx rfl) (by decide) (by decide) rfl rfl))))), ?_⟩
 refine ⟨_,rfl,v,.lst st ls es,rfl,hd,gd,(show es.length ≤ 1000000 by omega),fun r us H1 s1 h1 a1 => ⟨r,rfl,⟨_,Yg.of h1⟩,fun Dd fp sx hD => ?_⟩⟩
 have ul:us.length = es.length:=by rw [← a1.length,Y5]; rfl
 refine comp_list (K:=K) (a:=r) (xs:=us) (fun k ys σ H5 => Zf H1 H5∧H5 Dd = some (.lst ys)∧(∃ o,σ = [o])∧ys = bv ((es.map fun e => ((Z8 e).length:Int)).take k)) ⟨Zf.lay hD,Zq,⟨_,rfl⟩,rfl⟩ ?_ ?_ ?_
 ·rintro k ys σ H5 hk ⟨s5,h5,_⟩
  exact ⟨Yg.of (s5 _ _ h1),h5⟩
 ·rintro k x ys σ H5 hx ⟨s5,h5,⟨o,rfl⟩,ey⟩
  have hk:k < es.length:=by have:=(List.getElem?_eq_some_iff.mp hx).1; omega
  obtain ⟨e,he⟩:∃ e,es[k]? = some e:=⟨_,List.getElem?_eq_getElem hk⟩
  obtain ⟨x',hx',dx⟩:=a1.get (toDs_at he)
  rw [hx] at hx'
  cases hx'
  have me:=List.mem_of_getElem? he
  have dpe:=dpI_mem me
  have dp':dpIs es + 1 ≤ 10:=dp
  have lne:=byI_mem_le hl he
  refine nameT ⟨_,rfl,x,e,rfl,Yj.up s5.up _ _ (Yf e) dx,GdIs_all.mp gs e me,(show dpI e ≤ 9 + 1 by omega),by omega,fun r2 H6 s6 h6 => ⟨r2,_,rfl,.inr h6,s6 _ _ h5, ?_,(s5.trans s6).put hD,Zq,⟨_,rfl⟩, ?_⟩⟩
  ·rw [ey,Y2,List.length_take,List.length_map]; exact hz _ (by omega)
  ·rw [ey,map_take _ he,bv_app,Y2]
   rfl
 rintro ys σ H5 ⟨s5,h5,_,ey⟩
 have e5:(es.map fun e => ((Z8 e).length:Int)).take us.length = es.map fun e => ((Z8 e).length:Int):=by
  apply List.take_of_length_le
  rw [List.length_map]; omega
 rw [e5] at ey
 rw [ey] at h5
 have s15:=s1.trans s5
 refine ⟨_,rfl,Dd,_,rfl,Yg.of h5, ?_⟩
 refine ⟨_,rfl,v,.lst st ls es,rfl,Yj.up s15.up _ _ (Yf (.lst st ls es)) hd,gd,(show es.length ≤ 1000000 by omega),fun r3 us3 H6 s6 h6 a6 => ⟨r3,rfl,⟨_,Yg.of h6⟩,fun D2 fp2 sx2 hD2 => ?_⟩⟩
 have u3:us3.length = ls.length:=by rw [← a6.length,List.length_map]; exact stpL_len 0 ls
 refine comp_list (K:=K) (a:=r3) (xs:=us3) (fun k ys σ H7 => Zf H6 H7∧H7 D2 = some (.lst ys)∧(∃ o,σ = [o])∧ys = bv ((lbs ls).take k)) ⟨Zf.lay hD2,Zq,⟨_,rfl⟩,rfl⟩ ?_ ?_ ?_
 ·rintro k ys σ H7 hk ⟨s7,h7,_⟩
  exact ⟨Yg.of (s7 _ _ h6),h7⟩
 ·rintro k x ys σ H7 hx ⟨s7,h7,⟨o,rfl⟩,ey7⟩
  have hk:k < ls.length:=by have:=(List.getElem?_eq_some_iff.mp hx).1; omega
  obtain ⟨lb,hL⟩:∃ lb,ls[k]? = some lb:=⟨_,List.getElem?_eq_getElem hk⟩
  obtain ⟨x',hx',dx⟩:=a6.get (show ((Vh 0 ls).map sD)[k]? = some (sD (stp1 (0 + k) lb)) by rw [List.getElem?_map,stpL_get hL]; rfl)
  rw [hx] at hx'
  cases hx'
  obtain ⟨t,y,z,rfl,ht,_,hz2⟩:=isD2 dx
  obtain rfl:z = .int (stp1 (0 + k) lb).2:=hz2
  rw [stp_len (GdL.at hs2 gl _ (List.mem_of_getElem? hL))] at ht
  refine nameT ⟨_,rfl,t,_,_,_,rfl,rfl,s7.up _ _ ht,rfl,h7, ?_,s7.put hD2,Zq,⟨_,rfl⟩, ?_⟩
  ·rw [ey7,Y2,List.length_take]; exact hz _ (by omega)
  ·rw [ey7,lbs_at hL,bv_app]
   rfl
 rintro ys7 σ7 H7 ⟨s7,h7,_,ey7⟩
 have e7:(lbs ls).take us3.length = lbs ls:=by
  apply List.take_of_length_le
  unfold lbs
  rw [List.length_map]; omega
 rw [e7] at ey7
 rw [ey7] at h7
 refine ⟨D2,_,rfl,Yg.of h7,_,_,rfl,rfl, ?_⟩
 show Q (.int ((es.map fun e => ((Z8 e).length:Int)).sum + (lbs ls).sum)) H7
 rw [sums hl]
 exact q H7 ((s15.trans s6).trans s7)
end
abbrev s_law_spans:Stmt:=top 61
abbrev N_law_spans:List Str:=["_law_item_here","_law_place","_law_path","_law_file","_law_found","_law_at","_law_part","_law_step","_law_many"]
theorem Yw:Ze N_law_spans ["_law_item_here","_law_place","_law_path"] (Zk s_law_spans):=by trivial
theorem for_zip {K:PySem.W.Frag} {l1 l2:Addr} {xs ys:List V} {g:TG} {tb:TS} {D:Ends} {σ:L2.St} {H:Hp} (Pv:Nat→L2.St→Hp→Prop) (h0:Pv 0 σ H) (hl:∀ i σ H,i ≤ min xs.length ys.length→Pv i σ H→Yg K H l1 xs∧Yg K H l2 ys)
  (hs:∀ i x y p σ H,xs[i]? = some x→ys[i]? = some y→Pv i σ H→H p = none→g (.ref p) σ (Zo H p (.tup [x,y])) fun σ2 H2 => tb { D with nx:=Pv (i + 1),ct:=Pv (i + 1),bk:=D.nx } σ2 H2) (hd:∀ σ H,Pv (min xs.length ys.length) σ H→D.nx σ H) :
  ∃ W:Nat→Nat→L2.St→Hp→Prop,(∃ m,W 0 m σ H)∧∀ i m σ H,W i m σ H →
   ((Itz K l1 l2).stop i H∧D.nx σ H) ∨ ((Itz K l1 l2).go i H∧∃ N:L2.St→Hp→Prop,(∀ σ' H',N σ' H'→∃ m',m' < m∧W (i + 1) m' σ' H')∧∀ x H',(Itz K l1 l2).yld i H x H'→g x σ H' fun σ2 H2 => tb { D with nx:=N,ct:=N,bk:=D.nx } σ2 H2):=by
 refine ⟨fun i m σ H => m = min xs.length ys.length - i∧i ≤ min xs.length ys.length∧Pv i σ H,⟨min xs.length ys.length,by simp,Nat.zero_le _,h0⟩, ?_⟩
 rintro i m σ H ⟨rfl,hi,p⟩
 obtain ⟨q1,q2⟩:=hl i σ H hi p
 by_cases hlt:i < min xs.length ys.length
 ·have c1:i < xs.length:=by omega
  have c2:i < ys.length:=by omega
  refine .inr ⟨⟨xs,ys,xs[i],ys[i],q1,q2,by simp [c1],by simp [c2]⟩,Pv (i + 1),fun σ' H' p' => ⟨min xs.length ys.length - (i + 1),by omega,rfl,hlt,p'⟩,fun v H' y => ?_⟩
  obtain ⟨a,x,y',rfl,hn,rfl,y1,y2⟩:=y
  exact hs i x y' a σ H (y1 xs q1) (y2 ys q2) p hn
 ·have e:i = min xs.length ys.length:=by omega
  subst e
  exact .inl ⟨⟨xs,ys,q1,q2,by omega⟩,hd σ H p⟩
abbrev SpT:=List Vs × Nat × IT
def spD (t:SpT):D:=.tup [.tup (t.1.map stD),.int ((t.2.1:Nat):Int),.int ((t.2.1 + (Z8 t.2.2).length:Nat):Int),toD t.2.2]
def spZ (f:Nat→List Vs→IT→List SpT) (path:List Vs):Nat→List IT→List (Vs × Int)→List SpT
 | b,e :: es,s :: ss => f (b + s.2.toNat) (path ++ [s.1]) e ++ spZ f path (b + s.2.toNat + (Z8 e).length) es ss
 | _,_,_ => []
def at0 (p:Nat):IT→Nat
 | .arm n _ => p + 1 + (Lg n).length
 | .lst _ ls es => p + 1 + (Lg ((Yy ls es).length:Int)).length
 | _ => p
def spF:Nat→Nat→List Vs→IT→List SpT
 | 0,_,_,_ => []
 | n + 1,p,path,it => (path,p,it) :: spZ (spF n) path (at0 p it) (Z3 it) (Za it)
theorem spZ_len {f:Nat→List Vs→IT→List SpT} {path:List Vs}:∀ (es:List IT) (ss:List (Vs × Int)) (b:Nat),(∀ e ∈ es,∀ b p,(f b p e).length ≤ (Z8 e).length)→(spZ f path b es ss).length ≤ (es.map fun e => (Z8 e).length).sum
 | [],_,_,_ => by simp [spZ]
 | _ :: _,[],_,_ => by simp [spZ]
 | e :: es,s :: ss,b,h => by
  have h1:=h e List.mem_cons_self (b + s.2.toNat) (path ++ [s.1])
  have h2:=spZ_len (f:=f) (path:=path) es ss (b + s.2.toNat + (Z8 e).length) fun x m => h x (List.mem_cons_of_mem _ m)
  simp only [spZ,List.length_append,List.map_cons,List.sum_cons]; omega
theorem parts_len:∀ it:IT,GdI it→((Z3 it).map fun e => (Z8 e).length).sum + 1 ≤ (Z8 it).length
 | .whole n,_ => byI_ne _
 | .text x,_ => byI_ne _
 | .arm n e,_ => by simp only [Z3,List.map_cons,List.map_nil,List.sum_cons,List.sum_nil,Z8,List.length_cons,List.length_append]; omega
 | .lst s ls es,g => by
  have h:∀ (ls:List Lb) (es:List IT),ls.length = es.length→(es.map fun e => (Z8 e).length).sum ≤ (Yy ls es).length:=by
   intro ls
   induction ls with
   | nil => intro es h; cases es with
    | nil => exact Nat.le_refl _
    | cons e es => cases h
   | cons l ls ih =>
    intro es h
    cases es with
    | nil => cases h
    | cons e es =>
     have:=ih es (Nat.succ.inj h)
     simp only [List.map_cons,List.sum_cons,Yy,List.length_append]; omega
  have:=h ls es g.2.1
  simp only [Z3,Z8,List.length_cons,List.length_append]; omega
theorem parts_gd {it:IT} (g:GdI it):∀ e ∈ Z3 it,GdI e:=by
 intro e m
 cases it with
 | whole n => cases m
 | text x => cases m
 | arm n e' => rw [List.mem_singleton.mp m]; exact g.2.2
 | lst s ls es => exact GdIs_all.mp g.2.2.2 e m
theorem parts_dp {it:IT}:∀ e ∈ Z3 it,dpI e + 1 ≤ dpI it:=by
 intro e m
 cases it with
 | whole n => cases m
 | text x => cases m
 | arm n e' => rw [List.mem_singleton.mp m]; simp only [dpI]; omega
 | lst s ls es => have:=dpI_mem (es:=es) m; simp only [dpI]; omega
theorem spF_len:∀ (n:Nat) (it:IT),GdI it→∀ b p,(spF n b p it).length ≤ (Z8 it).length
 | 0,_,_,_,_ => by simp [spF]
 | n + 1,it,g,b,p => by
  have h:=spZ_len (f:=spF n) (path:=p) (Z3 it) (Za it) (at0 b it) fun e m b' p' => spF_len n e (parts_gd g e m) b' p'
  have:=parts_len it g
  simp only [spF,List.length_cons]; omega
theorem sp_noL (t:SpT):noL (spD t) = true:=by
 simp only [spD,noL,noLs,Bool.and_true,Bool.true_and,Bool.and_eq_true]
 exact ⟨noLs_all fun d m => by obtain ⟨s,_,rfl⟩:=List.mem_map.mp m; cases s <;> rfl,Yf _⟩
theorem sps_noL (l:List SpT):noLs (l.map spD) = true:=noLs_all fun d m => by
 obtain ⟨p,_,rfl⟩:=List.mem_map.mp m
 exact sp_noL p
theorem Vp (l:List Vs):noL (.tup (l.map stD)) = true:=noLs_all fun d m => by obtain ⟨s,_,rfl⟩:=List.mem_map.mp m; cases s <;> rfl
theorem at1:∀ it:IT,∃ b:Int,(Z8 it)[1]? = some b:=fun it => by
 have lg:∀ n:Int,∃ b r,Lg n = b :: r:=fun n => by
  cases e:Lg n with
  | nil => exact absurd e (Lf_ne 19 n)
  | cons b r => exact ⟨b,r,rfl⟩
 cases it with
 | whole n => obtain ⟨b,r,e⟩:=lg (fold n); exact ⟨b,by simp only [Z8,e]; rfl⟩
 | text x => obtain ⟨b,r,e⟩:=lg (x.length:Int); exact ⟨b,by simp only [Z8,sgB,e]; rfl⟩
 | arm n e' => obtain ⟨b,r,e⟩:=lg n; exact ⟨b,by simp only [Z8,e]; rfl⟩
 | lst s ls es => obtain ⟨b,r,e⟩:=lg ((Yy ls es).length:Int); exact ⟨b,by simp only [Z8,e]; rfl⟩
theorem at1_arm {n:Int} {e:IT} {b:Int} (h1:1 ≤ n) (h2:n ≤ 999) (h:(Z8 (.arm n e))[1]? = some b) (p:Nat):(p:Int) + 1 + (if decide (b > 127) = true then 1 else 0) + 1 = ((p + 1 + (Lg n).length:Nat):Int):=by
 by_cases c:n > 127
 ·have e2:Lg n = (n % 128 + 128) :: Lf 18 (n / 128):=by unfold Lg; exact Lf_big 18 (by omega)
  have hb:b = n % 128 + 128:=by simp only [Z8,e2] at h; simpa using h.symm
  rw [lg2 (by omega) (by omega),decide_eq_true (show b > 127 by omega)]
  simp only [if_true]; omega
 ·have e2:Lg n = [n]:=by unfold Lg; exact Lf_small 19 (by omega)
  have hb:b = n:=by simp only [Z8,e2] at h; simpa using h.symm
  rw [lg1 (by omega),decide_eq_false (show ¬ b > 127 by omega)]
  simp
theorem steps_nn {it:IT}:∀ s ∈ Za it,0 ≤ s.2:=by
 intro s m
 cases it with
 | whole n => cases m
 | text x => cases m
 | arm n e => rw [List.mem_singleton.mp m]; exact Int.le_refl _
 | lst t ls es =>
  have h:∀ (ls:List Lb) (k:Nat),∀ s ∈ Vh k ls,0 ≤ s.2:=by
   intro ls
   induction ls with
   | nil => intro k s m; cases m
   | cons l ls ih =>
    intro k s m
    rcases List.mem_cons.mp m with rfl | m
    ·cases l with
     | no => exact Int.le_refl _
     | key x => show 0 ≤ 1 + (x.length:Int); omega
     | num n => show 0 ≤ 1 + (if decide (n > 127) = true then (1:Int) else 0); split <;> omega
    ·exact ih _ s m
  exact h ls 0 s m
theorem spZ_succ {f:Nat→List Vs→IT→List SpT} {path:List Vs}:∀ {es:List IT} {ss:List (Vs × Int)} {b i:Nat} {e:IT} {s:Vs × Int},es[i]? = some e→ss[i]? = some s →
  ∃ b',spZ f path b (es.take i) (ss.take i) ++ spZ f path b' (es.drop i) (ss.drop i) = spZ f path b es ss∧spZ f path b (es.take (i + 1)) (ss.take (i + 1)) = spZ f path b (es.take i) (ss.take i) ++ f (b' + s.2.toNat) (path ++ [s.1]) e ∧
   b' = b + ((es.take i).map fun e => (Z8 e).length).sum + ((ss.take i).map fun s => s.2.toNat).sum
 | [],_,_,_,_,_,h,_ => by simp at h
 | _ :: _,[],_,_,_,_,_,h => by simp at h
 | e0 :: es,s0 :: ss,b,0,e,s,h1,h2 => by
  simp at h1 h2
  subst h1 h2
  refine ⟨b,by simp [spZ],by simp [spZ],by simp⟩
 | e0 :: es,s0 :: ss,b,i + 1,e,s,h1,h2 => by
  obtain ⟨b',x1,x2,x3⟩:=spZ_succ (f:=f) (path:=path) (es:=es) (ss:=ss) (b:=b + s0.2.toNat + (Z8 e0).length) (i:=i) (e:=e) (s:=s) (by simpa using h1) (by simpa using h2)
  refine ⟨b', ?_, ?_, ?_⟩
  ·simp only [List.take_succ_cons,List.drop_succ_cons,spZ,List.append_assoc]
   rw [x1]
  ·simp only [List.take_succ_cons,spZ,List.append_assoc]
   rw [x2]
  ·simp only [List.take_succ_cons,List.map_cons,List.sum_cons]
   omega
def spSpans (K:PySem.W.Frag):Nat→Sp
 | 0 => fun _ _ _ _ => False
 | n + 1 => fun vs H Q _ => ∃ (v vp:V) (it:IT) (p:Nat) (path:List Vs),vs = [v,.int (p:Int),vp]∧Yj K H (toD it) v∧GdI it∧dpI it ≤ n + 1∧dpI it ≤ 10∧(Z8 it).length ≤ 1000000∧path.length + n ≤ 1000∧Yj K H (.tup (path.map stD)) vp ∧
  ∀ (r:Addr) (us:List V) (H':Hp),Zf H H'→H' r = some (.lst us)→Zm K H' ((spF (n + 1) p path it).map spD) us→Q (.ref r) H'
theorem item_hd {K:PySem.W.Frag} {H:Hp} {it:IT} {v:V} (h:Yj K H (toD it) v):∃ a xs,v = .ref a∧Z9 K H a (.str (itS it) :: xs):=by
 cases it with
 | whole n => obtain ⟨p,x,y,rfl,hp,rfl,_⟩:=isD2 h; exact ⟨p,_,rfl,hp⟩
 | text n => obtain ⟨p,x,y,rfl,hp,rfl,_⟩:=isD2 h; exact ⟨p,_,rfl,hp⟩
 | arm n e => obtain ⟨p,x,y,z,rfl,hp,rfl,_⟩:=isD3 h; exact ⟨p,_,rfl,hp⟩
 | lst s ls es => obtain ⟨p,x,y,rfl,hp,rfl,_⟩:=isD2 h; exact ⟨p,_,rfl,hp⟩
theorem in_lst {s:Nat} (h:s ≤ 2):inV (V.str (srt s)) [V.str "row",V.str "map",V.str "rec"] = true:=by
 match s,h with
 | 0,_ => decide +kernel
 | 1,_ => decide +kernel
 | 2,_ => decide +kernel
theorem in_no {it:IT} (h:¬ ∃ s ls es,it = .lst s ls es):inV (V.str (itS it)) [V.str "row",V.str "map",V.str "rec"] = false:=by
 cases it with
 | whole n => exact (by decide +kernel:inV (V.str "whole") [V.str "row",V.str "map",V.str "rec"] = false)
 | text n => exact (by decide +kernel:inV (V.str "text") [V.str "row",V.str "map",V.str "rec"] = false)
 | arm n e => exact (by decide +kernel:inV (V.str "arm") [V.str "row",V.str "map",V.str "rec"] = false)
 | lst s ls es => exact absurd ⟨s,ls,es,rfl⟩ h
theorem steps_len {it:IT} (g:GdI it):(Za it).length = (Z3 it).length:=by
 cases it with
 | lst s ls es => rw [show Za (.lst s ls es) = Vh 0 ls from rfl,stpL_len]; exact g.2.1
 | _ => rfl
theorem take_sum {α:Type} (g:α→Nat) {l:List α} {i:Nat} {a:α} (h:l[i]? = some a):((l.take (i + 1)).map g).sum = ((l.take i).map g).sum + g a:=by
 rw [List.take_succ,h,List.map_append,List.sum_append]
 simp
def Lp (K:PySem.W.Frag) (n:Nat) (Q:VK):L2.St→Hp→Prop:=fun σ H =>
 tSeq (tFor (iZip K (Vq (tCall (spParts K) [] E0 (Vq (tVar 0) tNil)) (Vq (tCall (spSteps K) [] E0 (Vq (tVar 0) tNil)) tNil))) (gTup K 2 (gCons (gName 6) (gCons (gTup K 2 (gCons (gName 7) (gCons (gName 8) gNil))) gNil)))
  (tSeq (tAsg (tOp (rI0 fun i j => V.int (i + j)) (tVar 5) (tVar 8)) (gName 5)) (tSeq (tAsg (tOp rCat (tVar 4) (tCall (spSpans K n) [] E0 (Vq (tVar 6) (Vq (tVar 5) (Vq (tOp (rCatG K) (tVar 2) (tTup (Vq (tVar 7) tNil))) tNil))))) (gName 4))
   (tAsg (tOp (rI0 fun i j => V.int (i + j)) (tVar 5) (tCB (fun xs H Q => ∃ p ys,xs = [V.ref p]∧(Yg K H p ys ∨ Z9 K H p ys)∧Q (V.int (ys.length:Int)) H) (Vq (tCall (spLPack K (9 + 1)) [] E0 (Vq (tVar 6) tNil)) tNil))) (gName 5)))))
  (tRet (tVar 4)) { nx:=fun _ H' => Q .non H',rt:=Q } σ H
section
variable {P:Program} {w:World} {K:PySem.W.Frag} {mg:Str→Option Value} {base:Heap} {f:Addr} {fd:FuncData}
theorem ok_law_spans (F:Fun K "_law_spans" "_law_spans" s_law_spans f fd) (m:Bn mg) (bd:Binds K fd ["_law_item_here","_law_place","_law_path"] []) (mf:mg "_law_spans" = some (.ref f)) (g_law_packed:Fn P w K mg base 13 "_law_packed" ["_law_item_here"] (spLPack K (9 + 1))) (g_law_rest:Fn P w K mg base 15 "_law_rest" ["_law_item_here"] (spRest K))
  (g_law_parts:Fn P w K mg base 1 "_law_parts" ["_law_item_here"] (spParts K)) (g_law_steps:Fn P w K mg base 1 "_law_steps" ["_law_item_here"] (spSteps K)) :
  ∀ n,Yd P w K mg base CX0 (n + 16) f fd ["_law_item_here","_law_place","_law_path"] (spSpans K n)
 | 0 => ⟨fun vs H Q E h => h.elim,fun A outer s H args us vs Q E _ _ _ _ h => h.elim⟩
 | n + 1 => by
  have g_law_spans:Fn P w K mg base (n + 16) "_law_spans" ["_law_item_here","_law_place","_law_path"] (spSpans K n):=⟨f,fd,ok_law_spans F m bd mf g_law_packed g_law_rest g_law_parts g_law_steps n,bd,F.kp,mf⟩
  refine F.ok Yw (fun vs H Q E h => ?_) (fun cdv A outer s H vs Q E hr h => ?_)
  ·obtain ⟨v,vp,it,p,path,rfl,_⟩:=h
   rfl
  obtain ⟨v,vp,it,p,path,rfl,hd,gd,dp,d10,ln,pl,hvp,q⟩:=h
  have pln:=parts_len it gd
  have pgd:=parts_gd gd
  have pdp:=parts_dp (it:=it)
  have snn:=steps_nn (it:=it)
  obtain ⟨b1,hb1⟩:=at1 it
  have hz:∀ n:Nat,n ≤ 2000000→n < sizeLine:=fun n h => by have:=sizeLine_eq; omega
  refine ⟨_,(@Zj _ _ _ _ _ (@Zg _ 3 _ _ _ _ _ Yw.nd rfl (by trivial) (@Zw _ _ _ _ _ _ _ _ _ _ g_law_packed hr.m rfl (Zy (pv 0) Zx rfl) (by decide) rfl rfl) rfl (by trivial)) (@Zj _ _ _ _ _ (@Zg _ 4 _ _ _ _ _ Yw.nd rfl (by trivial) (@Yl _ _ _ _ (Zy (@Z5 _ _ _ _ _ (Zy (pv 2) (Zy (pv 1) (Zy (@Zb _ _ _ _ _ _ _ _ Z4 (pv 1) (@Zp _ _ _ _ _ _ _ _ _ Z2 rfl m.len b_len (Zy (pv 3) Zx rfl) (by decide) (by decide) rfl rfl)) (Zy (pv 0) Zx rfl) rfl) rfl) rfl)) Zx rfl)) rfl (by trivial)) (@Zj _ _ _ _ _ (@Zg _ 5 _ _ _ _ _ Yw.nd rfl (by trivial) (@Zb _ _ _ _ _ _ _ _ Z4 (@Zb _ _ _ _ _ _ _ _ Z4 (@Zb _ _ _ _ _ _ _ _ Z4 (pv 1) Zz) (@Yu _ _ _ _ _ _ _ _ _ call_int1 rfl m.int b_int (Zy (@pe_cmpR _ _ _ _ _ _ _ _ op_gt (@Zc _ _ _ _ _ _ _ Zl (pv 3) Zz (fun _ _ => rfl)) Zz (Z0 _)) Zx rfl) (by trivial) (by trivial) (by trivial) (by trivial))) Zz) rfl (by trivial)) (@Zj _ _ _ _ _ (@Yk _ _ _ _ _ _ _ _ (@Zs _ _ _ _ _ _ _ _ op_in_seq (@Zc _ _ _ _ _ _ _ Zl (pv 0) Zz (fun _ _ => rfl)) (@Z5 _ _ _ _ _ (Zy Zd (Zy Zd (Zy Zd Zx rfl) rfl) rfl)) rfl) (@Zv _ _ _ (@Zg _ 5 _ _ _ _ _ Yw.nd rfl (by trivial) (@Zb _ _ _ _ _ _ _ _ op_sub (@Zb _ _ _ _ _ _ _ _ Z4 (pv 1) (@Zp _ _ _ _ _ _ _ _ _ Z2 rfl m.len b_len (Zy (pv 3) Zx rfl) (by decide) (by decide) rfl rfl)) (@Zw _ _ _ _ _ _ _ _ _ _ g_law_rest hr.m rfl (Zy (pv 0) Zx rfl) (by decide) rfl rfl)) rfl (by trivial))) Zi) (@Zj _ _ _ _ _ (@ps_for _ _ _ _ _ _ _ _ PassesOwn.never rfl (@pi_zip _ _ _ _ _ _ _ _ _ rfl m.zip (Zy (@Zw _ _ _ _ _ _ _ _ _ _ g_law_parts hr.m rfl (Zy (pv 0) Zx rfl) (by decide) rfl rfl) (Zy (@Zw _ _ _ _ _ _ _ _ _ _ g_law_steps hr.m rfl (Zy (pv 0) Zx rfl) (by decide) rfl rfl) Zx rfl) rfl) rfl rfl) (@pg_tup _ _ _ _ _ _ rfl (@Yh _ _ _ _ _ (@Zh _ 6 _ _ Yw.nd rfl (Or.inl rfl) (by trivial)) (@Yh _ _ _ _ _ (@pg_tup _ _ _ _ _ _ rfl (@Yh _ _ _ _ _ (@Zh _ 7 _ _ Yw.nd rfl (Or.inl rfl) (by trivial)) (@Yh _ _ _ _ _ (@Zh _ 8 _ _ Yw.nd rfl (Or.inl rfl) (by trivial)) pgs_nil (by trivial)) (by trivial)) (by trivial) (by trivial)) pgs_nil (by trivial)) (by trivial)) (by trivial) (by trivial)) (@Zj _ _ _ _ _ (@Zg _ 5 _ _ _ _ _ Yw.nd rfl (by trivial) (@Zb _ _ _ _ _ _ _ _ Z4 (pv 5) (pv 8)) rfl (by trivial)) (@Zj _ _ _ _ _ (@Zg _ 4 _ _ _ _ _ Yw.nd rfl (by trivial) (@Zb _ _ _ _ _ _ _ _ op_cat (pv 4) (@Zw _ _ _ _ _ _ _ _ _ _ g_law_spans hr.m rfl (Zy (pv 6) (Zy (pv 5) (Zy (@Zb _ _ _ _ _ _ _ _ Vv (pv 2) (@Z5 _ _ _ _ _ (Zy (pv 7) Zx rfl))) Zx rfl) rfl) rfl) (by decide) rfl rfl)) rfl (by trivial)) (@Zv _ _ _ (@Zg _ 5 _ _ _ _ _ Yw.nd rfl (by trivial) (@Zb _ _ _ _ _ _ _ _ Z4 (pv 5) (@Zp _ _ _ _ _ _ _ _ _ Z2 rfl m.len b_len (Zy (@Zw _ _ _ _ _ _ _ _ _ _ g_law_packed hr.m rfl (Zy (pv 6) Zx rfl) (by decide) rfl rfl) Zx rfl) (by decide) (by decide) rfl rfl)) rfl (by trivial))))) (by trivial)) (@Zv _ _ _ (@Zr _ _ _ _ (pv 4)))))))), ?_⟩
  refine ⟨_,rfl,v,it,rfl,hd,gd,(show dpI it ≤ 9 + 1 by omega),by omega,fun r2 H2 s2 h2 => ?_⟩
  have hd2:=Yj.up s2.up _ _ (Yf it) hd
  have hvp2:=Yj.up s2.up _ _ (Vp path) hvp
  obtain ⟨ia,ixs,rfl,hia⟩:=item_hd hd2
  refine ⟨_,rfl,_,rfl,_,rfl,_,rfl,r2,_,rfl,.inr h2,_,_,rfl,rfl,_,rfl,(sz 4),fun t3 h3 => ⟨(sz 1),fun l3 hl3 => ?_⟩⟩
  have s3:=(Zf.lay (o:=.tup [vp,.int (p:Int),.int ((p:Int) + ((bv (Z8 it)).length:Int)),.ref ia]) h3).trans (Zf.lay (o:=.lst [.ref t3]) hl3)
  have n3:t3 ≠ l3:=Zu Zq hl3
  refine ⟨_,rfl,_,_,rfl,rfl,_,rfl,r2,_,_,_,rfl,rfl,s3.up _ _ h2,Z7 (j:=1) (bvAt hb1),_,_,rfl,rfl,.inr ⟨_,rfl,_,_,rfl,rfl,_,_,rfl,rfl, ?_⟩⟩
  have hd3:=Yj.up s3.up _ _ (Yf it) hd2
  have it0:Z9 K (Zo (Zo H2 t3 (.tup [vp,.int (p:Int),.int ((p:Int) + ((bv (Z8 it)).length:Int)),.ref ia])) l3 (.lst [.ref t3])) t3 [vp,.int (p:Int),.int ((p:Int) + ((bv (Z8 it)).length:Int)),.ref ia]:=Z9.of (by rw [Zt n3]; exact Zq)
  have li0:(Zo (Zo H2 t3 (.tup [vp,.int (p:Int),.int ((p:Int) + ((bv (Z8 it)).length:Int)),.ref ia])) l3 (.lst [.ref t3])) l3 = some (.lst [.ref t3]):=Zq
  have hvp3:=Yj.up s3.up _ _ (Vp path) hvp2
  have s03:=s2.trans s3
  have h23:=s3.up (K:=K) _ _ h2
  have hia3:=s3.up (K:=K) _ _ hia
  show tSeq _ _ _ _ (Zo (Zo H2 t3 (.tup [vp,.int (p:Int),.int ((p:Int) + ((bv (Z8 it)).length:Int)),.ref ia])) l3 (.lst [.ref t3]))
  generalize (Zo (Zo H2 t3 (.tup [vp,.int (p:Int),.int ((p:Int) + ((bv (Z8 it)).length:Int)),.ref ia])) l3 (.lst [.ref t3])) = H3 at hd3 it0 li0 hvp3 s03 h23 hia3
  refine ⟨_,rfl,ia,_,_,_,rfl,rfl,hia3,(show atI (V.str (itS it) :: ixs) ((0:Nat):Int) = _ from Z7 (j:=0) rfl),(sz 3),fun t4 h4 => ⟨t4,_,rfl,.inr (Z9.of Zq),rfl,rfl,_,rfl, ?_⟩⟩
  have s4:=Zf.lay (o:=.tup [.str "row",.str "map",.str "rec"]) h4
  have s04:=s03.trans s4
  have bl:(bv (Z8 it)).length = (Z8 it).length:=Y2 _
  have pl':(Z3 it).length ≤ 1000000:=by
   have:∀ l:List IT,l.length ≤ (l.map fun e => (Z8 e).length).sum:=by
    intro l
    induction l with
    | nil => exact Nat.le_refl _
    | cons e l ih => have:=byI_ne e; simp only [List.length_cons,List.map_cons,List.sum_cons]; omega
   have:=this (Z3 it)
   omega
  have sl:=steps_len gd
  obtain ⟨pa,pxs,rfl,hpa,apx⟩:=hvp
  have pxl:pxs.length = path.length:=by rw [← apx.length,List.length_map]
  have loop:∀ (z:Int) (H5:Hp),Zf H3 H5→(Z3 it = [] ∨ z = ((at0 p it:Nat):Int))→Lp K n (fun v H => Q v H) [some (.ref ia),some (.int (p:Int)),some (.ref pa),some (.ref r2),some (.ref l3),some (.int z),none,none,none] H5:=by
   intro z H5 s35 hzz
   have s05:=s03.trans s35
   have nI:=Yf it
   refine ⟨_,rfl,.ref ia,it,rfl,Yj.up s35.up _ _ nI hd3,gd,pl',fun rp us H6 s6 h6 a6 => ?_⟩
   refine ⟨_,rfl,.ref ia,it,rfl,Yj.up (s35.trans s6).up _ _ nI hd3,gd,pl',fun rs ss H7 s7 h7 a7 => ?_⟩
   have s37:=s35.trans (s6.trans s7)
   have ul:us.length = (Z3 it).length:=by rw [← a6.length,Y5]
   have ssl:ss.length = (Z3 it).length:=by rw [← a7.length,List.length_map,sl]
   have a67:Zm K H7 (toDs (Z3 it)) us:=Zm.up s7.up _ _ (by have:=toDs_take (Z3 it) (Z3 it).length; rwa [← Y5,List.take_length] at this) a6
   refine ⟨rp,rs,rfl,⟨_,Yg.of (s7 _ _ h6)⟩,⟨_,Yg.of h7⟩,for_zip (xs:=us) (ys:=ss) (fun i σ H8 => Zf H7 H8∧∃ (l:Addr) (ws:List V) (zz:Int) (o6 o7 o8:Option V),σ = [some (.ref ia),some (.int (p:Int)),some (.ref pa),some (.ref r2),some (.ref l),some (.int zz),o6,o7,o8]∧H8 l = some (.lst ws) ∧
     Zm K H8 (((path,p,it) :: spZ (spF n) path (at0 p it) ((Z3 it).take i) ((Za it).take i)).map spD) ws∧(Z3 it = [] ∨ zz = ((at0 p it + (((Z3 it).take i).map fun e => (Z8 e).length).sum + (((Za it).take i).map fun s => s.2.toNat).sum:Nat):Int))) ?_ ?_ ?_ ?_⟩
   ·refine ⟨Zf.refl _,l3,_,z,_,_,_,rfl,s37 _ _ li0, ?_, ?_⟩
    ·simp only [List.take_zero,spZ,List.map_cons,List.map_nil]
     refine Zm.one ⟨t3,_,rfl,s37.up _ _ it0, ?_⟩
     refine ⟨_,_,rfl,Yj.up s37.up _ _ (Vp path) hvp3,_,_,rfl,rfl,_,_,rfl, ?_,_,_,rfl,Yj.up s37.up _ _ nI hd3,rfl⟩
     show V.int ((p:Int) + ((bv (Z8 it)).length:Int)) = V.int ((p + (Z8 it).length:Nat):Int)
     rw [bl,Int.natCast_add]
    ·simpa using hzz
   ·rintro i σ H8 hi ⟨s8,_⟩
    exact ⟨Yg.of (s8 _ _ (s7 _ _ h6)),Yg.of (s8 _ _ h7)⟩
   ·rintro i x y pz σ H8 hx hy ⟨s8,l,ws,zz,o6,o7,o8,rfl,hl,aw,ez⟩ hpz
    have il:i < (Z3 it).length:=by have:=(List.getElem?_eq_some_iff.mp hx).1; omega
    obtain ⟨e,he⟩:∃ e,(Z3 it)[i]? = some e:=⟨_,List.getElem?_eq_getElem il⟩
    obtain ⟨sp,hsp⟩:∃ sp,(Za it)[i]? = some sp:=⟨_,List.getElem?_eq_getElem (by rw [sl]; exact il)⟩
    have me:=List.mem_of_getElem? he
    have ms:=snn sp (List.mem_of_getElem? hsp)
    have ne:Z3 it ≠ []:=fun z => by rw [z] at he; simp at he
    replace ez:=ez.resolve_left ne
    obtain ⟨x',hx',dx⟩:=a67.get (toDs_at he)
    rw [hx] at hx'
    cases hx'
    obtain ⟨y',hy',dy⟩:=a7.get (show ((Za it).map sD)[i]? = some (sD sp) by rw [List.getElem?_map,hsp]; rfl)
    rw [hy] at hy'
    cases hy'
    obtain ⟨ty,y1,y2,rfl,hty,d1,d2⟩:=isD2 (show Yj K H7 (.tup [stD sp.1,.int sp.2]) y from dy)
    obtain rfl:y2 = .int sp.2:=d2
    have s9:Zf H8 (Zo H8 pz (.tup [x,.ref ty])):=Zf.lay hpz
    have s79:=s8.trans s9
    refine ⟨pz,_,rfl,Z9.of Zq,rfl,_,_,rfl,_,_,rfl,ty,_,rfl,s79.up _ _ hty,rfl,_,_,rfl,_,_,rfl,rfl,rfl, ?_⟩
    obtain ⟨bb,_,x2,x3⟩:=spZ_succ (f:=spF n) (path:=path) (b:=at0 p it) he hsp
    have ebb:zz + sp.2 = ((bb + sp.2.toNat:Nat):Int):=by rw [ez,x3]; omega
    have dpe:=pdp e me
    have e1:1 ≤ dpI e:=by cases e <;> simp only [dpI] <;> omega
    have lne:(Z8 e).length ≤ 1000000:=by
     have h:∀ l:List IT,e ∈ l→(Z8 e).length ≤ (l.map fun e => (Z8 e).length).sum:=by
      intro l
      induction l with
      | nil => intro m; cases m
      | cons a l ih =>
       intro m
       simp only [List.map_cons,List.sum_cons]
       rcases List.mem_cons.mp m with rfl | m
       ·omega
       ·have:=ih m; omega
     have:=h _ me
     omega
    have hpa9:Z9 K (Zo H8 pz (.tup [x,.ref ty])) pa pxs:=(s03.trans (s37.trans s79)).up _ _ hpa
    have apx9:Zm K (Zo H8 pz (.tup [x,.ref ty])) (path.map stD) pxs:=Zm.up (s03.trans (s37.trans s79)).up _ _ (Vp path) apx
    have dst:noL (stD sp.1) = true:=by cases sp.1 <;> rfl
    refine ⟨_,rfl,_,rfl,_,_,rfl,rfl, ?_⟩
    refine ⟨_,rfl,_,rfl,_,rfl,_,rfl,_,rfl,(sz 1),fun t9 h9 => ⟨pa,t9,pxs,_,rfl,rfl,Ya h9 _ _ hpa9,Z9.of Zq,(by rw [pxl]; exact Nat.le_of_lt (hz _ (by show path.length + 1 ≤ _; omega))),fun p10 H10 s10 h10 => ?_⟩⟩
    have s910:Zf (Zo H8 pz (.tup [x,.ref ty])) H10:=(Zf.lay h9).trans s10
    have s710:=s79.trans s910
    obtain ⟨n',rfl⟩:∃ n',n = n' + 1:=⟨n - 1,by omega⟩
    refine ⟨x,.ref p10,e,bb + sp.2.toNat,path ++ [sp.1],(by show [x,V.int (zz + sp.2),V.ref p10] = _; rw [ebb]),Yj.up s710.up _ _ (Yf e) dx,pgd e me,by omega,by omega,lne,(by rw [List.length_append,List.length_singleton]; omega),⟨p10,_,rfl,h10, ?_⟩,fun r11 us11 H11 s11 h11 a11 => ?_⟩
    ·rw [List.map_append]
     exact Zm.append (Zm.up s910.up _ _ (Vp path) apx9) (Zm.one (Yj.up s710.up _ _ dst d1))
    have s811:=s9.trans (s910.trans s11)
    have wl:=aw.length
    have ul11:=a11.length
    rw [List.length_map] at wl ul11
    have b1:=spF_len (n' + 1) e (pgd e me) (bb + sp.2.toNat) (path ++ [sp.1])
    have b2:=spZ_len (f:=spF (n' + 1)) (path:=path) ((Z3 it).take i) ((Za it).take i) (at0 p it) fun e' m' b' p' => spF_len _ e' (pgd e' (List.mem_of_mem_take m')) b' p'
    have b3:(((Z3 it).take i).map fun e => (Z8 e).length).sum ≤ ((Z3 it).map fun e => (Z8 e).length).sum:=by
     have:∀ (l:List IT) (i:Nat),((l.take i).map fun e => (Z8 e).length).sum ≤ (l.map fun e => (Z8 e).length).sum:=by
      intro l
      induction l with
      | nil => intro i; simp
      | cons a l ih =>
       intro i
       cases i with
       | zero => simp
       | succ i => have:=ih i; simp only [List.take_succ_cons,List.map_cons,List.sum_cons]; omega
     exact this _ _
    rw [List.length_cons] at wl
    refine ⟨l,r11,ws,us11,rfl,rfl,s811 _ _ hl,h11,Nat.le_of_lt (hz _ (by omega)),fun p12 h12 => ?_⟩
    have s12:=s811.trans (Zf.lay (o:=.lst (ws ++ us11)) h12)
    refine ⟨_,rfl,_,rfl,x,e,rfl,Yj.up (s8.trans s12).up _ _ (Yf e) dx,pgd e me,(show dpI e ≤ 9 + 1 by omega),by omega,fun r13 H13 s13 h13 => ⟨r13,_,rfl,.inr h13,_,_,rfl,rfl, ?_⟩⟩
    refine ⟨s8.trans (s12.trans s13),p12,ws ++ us11,_,_,_,_,rfl,s13 _ _ Zq, ?_,.inr ?_⟩
    ·rw [x2,List.map_cons,List.map_append]
     refine Zm.append (ds:=spD (path,p,it) :: (spZ (spF (n' + 1)) path (at0 p it) ((Z3 it).take i) ((Za it).take i)).map spD) ?_ ?_
     ·exact Zm.up (s12.trans s13).up _ _ (sps_noL ((path,p,it) :: spZ (spF (n' + 1)) path (at0 p it) ((Z3 it).take i) ((Za it).take i))) aw
     ·exact Zm.up ((Ya h12).trans s13.up) _ _ (sps_noL _) a11
    ·rw [take_sum _ he,take_sum _ hsp,Y2,ez]
     omega
   ·rintro σ H8 ⟨s8,l,ws,zz,o6,o7,o8,rfl,hl,aw,_⟩
    rw [ul,ssl,Nat.min_self,List.take_length, ← sl,List.take_length] at aw
    exact ⟨_,rfl,q l ws H8 (s03.trans (s37.trans s8)) hl aw⟩
  by_cases c:∃ s ls es,it = .lst s ls es
  ·obtain ⟨st,ls,es,e⟩:=c
   have gd':=gd
   rw [e] at gd'
   have l':(Z8 it).length = (Lg ((Yy ls es).length:Int)).length + (Yy ls es).length + 1:=by rw [e]; simp only [Z8,List.length_cons,List.length_append]
   refine iteY (by rw [e]; exact in_lst gd'.1) ⟨_,rfl,_,rfl,r2,_,rfl,.inr (s4.up _ _ h23),_,_,rfl,rfl,_,rfl,.ref ia,st,ls,es,rfl,e ▸ Yj.up s4.up _ _ (Yf it) hd3,gd',e ▸ d10,by omega,fun H5 s5 => ⟨_,_,rfl,rfl, ?_⟩⟩
   exact loop _ H5 (s4.trans s5) (.inr (by rw [e]; rw [e] at l' bl; simp only [at0]; omega))
  ·refine Yr (in_no c) ?_
   refine loop _ _ s4 ?_
   cases it with
   | whole n => exact .inl rfl
   | text n => exact .inl rfl
   | arm n e => exact .inr (at1_arm gd.1 gd.2.1 hb1 p)
   | lst s ls es => exact absurd ⟨s,ls,es,rfl⟩ c
end
theorem eq_int {i j:Int}:eqD (.int i) (.int j) = decide (i = j):=by
 by_cases e:i = j
 ·subst e; rw [eqD_refl]; simp
 ·rw [eqD_flat (x:=.int i) (y:=.int j) rfl rfl,decide_eq_false e]
  simp [eqV,e]
theorem eqDs_ints:∀ {a b:List Int},eqDs (a.map D.int) (b.map D.int) = true→a = b
 | [],[],_ => rfl
 | [],_ :: _,h => by simp [eqDs] at h
 | _ :: _,[],h => by simp [eqDs] at h
 | x :: a,y :: b,h => by
  simp only [List.map_cons,eqDs,Bool.and_eq_true] at h
  rw [eq_int] at h
  rw [of_decide_eq_true h.1,eqDs_ints h.2]
theorem eq_bD {a b:List Int} (h:eqD (bD a) (bD b) = true):a = b:=eqDs_ints (by simpa only [bD,eqD] using h)
theorem map_inj:∀ {a b:List Nat},a.map (fun c:Nat => (c:Int)) = b.map (fun c:Nat => (c:Int))→a = b
 | [],[],_ => rfl
 | [],_ :: _,h => by simp at h
 | _ :: _,[],h => by simp at h
 | x :: a,y :: b,h => by
  simp only [List.map_cons,List.cons.injEq] at h
  rw [map_inj h.2,show x = y by omega]
theorem codes_inj {x y:Str} (h:codes x = codes y):x = y:=by
 have h2:x.cps.toList = y.cps.toList:=map_inj h
 cases x; cases y
 simp only [Str.mk.injEq]
 exact Array.toList_inj.mp h2
theorem trip_find:∀ {ls:List Lb} {es:List IT} {k b i:Nat} {l:Lb} {e:IT},ls[i]? = some l→es[i]? = some e→(∀ j l',j < i→ls[j]? = some l'→eqD (labD (k + j) l') (labD (k + i) l) = false) →
  (Vm k b ls es).find? (fun t => eqD t.1 (labD (k + i) l)) = some (labD (k + i) l,b + ((es.take i).map fun e => (Z8 e).length).sum + ((ls.take i).map fun l => (lbB l).length).sum + (lbB l).length,e)
 | [],_,_,_,_,_,_,h,_,_ => by simp at h
 | _ :: _,[],_,_,_,_,_,_,h,_ => by simp at h
 | l0 :: ls,e0 :: es,k,b,0,l,e,h1,h2,_ => by
  simp at h1 h2
  subst h1 h2
  simp only [Vm,Nat.add_zero,List.find?_cons,eqD_refl]
  simp
 | l0 :: ls,e0 :: es,k,b,i + 1,l,e,h1,h2,h3 => by
  have ih:=trip_find (ls:=ls) (es:=es) (k:=k + 1) (b:=b + (lbB l0).length + (Z8 e0).length) (i:=i) (l:=l) (e:=e) (by simpa using h1) (by simpa using h2) fun j l' hj hl' => by
   have:=h3 (j + 1) l' (by omega) (by simpa using hl')
   rw [show k + 1 + j = k + (j + 1) by omega,show k + 1 + i = k + (i + 1) by omega]
   exact this
  have h0:=h3 0 l0 (by omega) rfl
  rw [show k + 1 + i = k + (i + 1) by omega] at ih
  simp only [Vm,List.find?_cons]
  rw [show k + 0 = k from rfl] at h0
  rw [h0]
  simp only
  rw [ih]
  simp only [List.take_succ_cons,List.map_cons,List.sum_cons]
  rw [show b + (lbB l0).length + (Z8 e0).length + ((es.take i).map fun e => (Z8 e).length).sum + ((ls.take i).map fun l => (lbB l).length).sum + (lbB l).length = b + ((Z8 e0).length + ((es.take i).map fun e => (Z8 e).length).sum) + ((lbB l0).length + ((ls.take i).map fun l => (lbB l).length).sum) + (lbB l).length by omega]
theorem lab_ne {s k i j:Nat} {ls:List Lb} {l l':Lb} (hs:s ≤ 2) (g:GdL s ls) (hj:j < i) (h1:ls[j]? = some l') (h2:ls[i]? = some l):eqD (labD (k + j) l') (labD (k + i) l) = false:=by
 refine Bool.eq_false_iff.mpr fun h => ?_
 match s,hs,g with
 | 0,_,g =>
  rw [g l (List.mem_of_getElem? h2),g l' (List.mem_of_getElem? h1)] at h
  simp only [labD] at h
  rw [eq_int] at h
  have:=of_decide_eq_true h
  omega
 | 1,_,⟨ks,e,_,ad⟩ =>
  have pw:=adj_pair (r:=ltS) (fun _ _ _ h1 h2 => ltS_trans h1 h2) ad
  rw [e,List.getElem?_map] at h1 h2
  obtain ⟨x,hx,rfl⟩:=Option.map_eq_some_iff.mp h1
  obtain ⟨y,hy,rfl⟩:=Option.map_eq_some_iff.mp h2
  have:=codes_inj (eq_bD h)
  subst this
  obtain ⟨a1,b1⟩:=List.getElem?_eq_some_iff.mp hx
  obtain ⟨a2,b2⟩:=List.getElem?_eq_some_iff.mp hy
  have:=List.pairwise_iff_getElem.mp pw j i a1 a2 hj
  rw [b1,b2] at this
  exact absurd this (List.lt_irrefl _)
 | 2,_,⟨ks,e,_,pw⟩ =>
  rw [e,List.getElem?_map] at h1 h2
  obtain ⟨x,hx,rfl⟩:=Option.map_eq_some_iff.mp h1
  obtain ⟨y,hy,rfl⟩:=Option.map_eq_some_iff.mp h2
  simp only [labD] at h
  rw [eq_int] at h
  have:=of_decide_eq_true h
  subst this
  obtain ⟨a1,b1⟩:=List.getElem?_eq_some_iff.mp hx
  obtain ⟨a2,b2⟩:=List.getElem?_eq_some_iff.mp hy
  have:=List.pairwise_iff_getElem.mp pw j i a1 a2 hj
  rw [b1,b2] at this
  exact absurd this (Int.lt_irrefl _)
theorem want_stp (k:Nat) (l:Lb):want (stp1 k l).1 = labD k l:=by cases l <;> rfl
theorem sort_stp {s k:Nat} {l:Lb} (h:LbS s l):srt s = stS (stp1 k l).1:=by
 rcases h with ⟨rfl,rfl⟩ | ⟨rfl,x,rfl,_⟩ | ⟨rfl,n,rfl,_⟩ <;> rfl
theorem step_at {it e:IT} {i p:Nat} {s:Vs × Int} (g:GdI it) (h1:(Z3 it)[i]? = some e) (h2:(Za it)[i]? = some s) :
  Yn p it s.1 = some (at0 p it + (((Z3 it).take i).map fun e => (Z8 e).length).sum + (((Za it).take i).map fun s => s.2.toNat).sum + s.2.toNat,e):=by
 cases it with
 | whole n => simp [Z3] at h1
 | text n => simp [Z3] at h1
 | arm n e' =>
  have i0:i = 0:=by
   have:=(List.getElem?_eq_some_iff.mp h1).1
   simpa [Z3] using this
  subst i0
  simp [Z3] at h1
  simp [Za] at h2
  subst h1 h2
  unfold Yn
  rw [if_pos (show itS (.arm n e') = stS (Vs.arm n) from rfl)]
  simp only [tripI,List.find?_cons,want,eqD_refl,Option.map_some,at0]
  simp
 | lst st ls es =>
  obtain ⟨hs2,hl,gl,gs⟩:=g
  have hE:es[i]? = some e:=h1
  have il:i < ls.length:=by rw [hl]; exact (List.getElem?_eq_some_iff.mp hE).1
  obtain ⟨l,hL⟩:∃ l,ls[i]? = some l:=⟨_,List.getElem?_eq_getElem il⟩
  have hs:s = stp1 (0 + i) l:=by
   have:=stpL_get (k:=0) hL
   rw [show (Za (.lst st ls es)) = Vh 0 ls from rfl,this] at h2
   exact (Option.some.inj h2).symm
  subst hs
  have lb:=GdL.at hs2 gl _ (List.mem_of_getElem? hL)
  have tf:=trip_find (k:=0) (b:=at0 p (.lst st ls es)) hL hE fun j l' hj hl' => lab_ne hs2 gl hj hl' hL
  unfold Yn
  rw [if_pos (show itS (.lst st ls es) = stS (stp1 (0 + i) l).1 from sort_stp lb),want_stp]
  show Option.map _ (List.find? _ (Vm 0 (at0 p (.lst st ls es)) ls es)) = _
  rw [tf]
  have sm:((Vh 0 ls).take i |>.map fun s => s.2.toNat).sum = ((ls.take i).map fun l => (lbB l).length).sum:=by
   have h:∀ (ls:List Lb) (k i:Nat),(∀ l ∈ ls,LbS st l)→((Vh k ls).take i |>.map fun s => s.2.toNat).sum = ((ls.take i).map fun l => (lbB l).length).sum:=by
    intro ls
    induction ls with
    | nil => intro k i _; simp [Vh]
    | cons l ls ih =>
     intro k i h
     cases i with
     | zero => simp
     | succ i =>
      have:=ih (k + 1) i fun x m => h x (List.mem_cons_of_mem _ m)
      have e:=stp_len (k:=k) (h l List.mem_cons_self)
      simp only [Vh,List.take_succ_cons,List.map_cons,List.sum_cons]
      rw [this,e]
      omega
   exact h ls 0 i fun l m => GdL.at hs2 gl l m
  have sn:=stp_len (k:=0 + i) lb
  simp only [Option.map_some,Z3,Za]
  rw [sm,sn]
  simp
theorem no_step {it:IT} {p:Nat} {st:Vs} (g:GdI it) (h:∀ s ∈ Za it,s.1 ≠ st):Yn p it st = none:=by
 unfold Yn
 split
 ·rename_i e
  rw [Option.map_eq_none_iff,List.find?_eq_none]
  intro t mt q
  cases it with
  | whole n => cases mt
  | text n => cases mt
  | arm n e' =>
   simp only [tripI,List.mem_singleton] at mt
   subst mt
   have e:("arm" : Str) = stS st:=e
   cases st with
   | arm m =>
    simp only [want] at q
    rw [eq_int] at q
    exact h _ List.mem_cons_self (by rw [of_decide_eq_true q])
   | «at» m => exact absurd e (by simp only [stS]; decide +kernel)
   | key m => exact absurd e (by simp only [stS]; decide +kernel)
   | field m => exact absurd e (by simp only [stS]; decide +kernel)
  | lst s ls es =>
   obtain ⟨hs2,hl,gl,gs⟩:=g
   obtain ⟨i,l,hL,e1⟩:∃ i l,ls[i]? = some l∧t.1 = labD (0 + i) l:=by
    have z:∀ (ls:List Lb) (es:List IT) (k b:Nat),∀ t ∈ Vm k b ls es,∃ i l,ls[i]? = some l∧t.1 = labD (k + i) l:=by
     intro ls
     induction ls with
     | nil => intro es k b t m; simp [Vm] at m
     | cons l ls ih =>
      intro es k b t m
      cases es with
      | nil => simp [Vm] at m
      | cons e es =>
       simp only [Vm] at m
       rcases List.mem_cons.mp m with rfl | m
       ·exact ⟨0,l,rfl,rfl⟩
       ·obtain ⟨i,l',h1,h2⟩:=ih es (k + 1) _ t m
        exact ⟨i + 1,l',by simpa using h1,by rw [h2,show k + 1 + i = k + (i + 1) by omega]⟩
    exact z ls es 0 _ t mt
   rw [e1] at q
   have ms:stp1 (0 + i) l ∈ Za (.lst s ls es):=List.mem_of_getElem? (stpL_get (k:=0) hL)
   have ne:=h _ ms
   have e:srt s = stS st:=e
   rcases GdL.at hs2 gl _ (List.mem_of_getElem? hL) with ⟨rfl,rfl⟩ | ⟨rfl,x,rfl,_⟩ | ⟨rfl,n,rfl,_⟩
   ·cases st with
    | «at» m =>
     simp only [want,labD] at q
     rw [eq_int] at q
     exact ne (by simp only [stp1]; rw [of_decide_eq_true q])
    | arm m => exact absurd e (by simp only [stS,srt]; decide +kernel)
    | key m => exact absurd e (by simp only [stS,srt]; decide +kernel)
    | field m => exact absurd e (by simp only [stS,srt]; decide +kernel)
   ·cases st with
    | key m =>
     simp only [want,labD] at q
     exact ne (by simp only [stp1]; rw [codes_inj (eq_bD q)])
    | arm m => exact absurd e (by simp only [stS,srt]; decide +kernel)
    | «at» m => exact absurd e (by simp only [stS,srt]; decide +kernel)
    | field m => exact absurd e (by simp only [stS,srt]; decide +kernel)
   ·cases st with
    | field m =>
     simp only [want,labD] at q
     rw [eq_int] at q
     exact ne (by simp only [stp1]; rw [of_decide_eq_true q])
    | arm m => exact absurd e (by simp only [stS,srt]; decide +kernel)
    | «at» m => exact absurd e (by simp only [stS,srt]; decide +kernel)
    | key m => exact absurd e (by simp only [stS,srt]; decide +kernel)
 ·rfl
theorem spZ_mem {f:Nat→List Vs→IT→List SpT} {path:List Vs}:∀ {es:List IT} {ss:List (Vs × Int)} {b:Nat} {t:SpT},t ∈ spZ f path b es ss→∃ i e s,es[i]? = some e∧ss[i]? = some s∧t ∈ f (b + ((es.take i).map fun e => (Z8 e).length).sum + ((ss.take i).map fun s => s.2.toNat).sum + s.2.toNat) (path ++ [s.1]) e
 | [],_,_,_,h => by simp [spZ] at h
 | _ :: _,[],_,_,h => by simp [spZ] at h
 | e :: es,s :: ss,b,t,h => by
  simp only [spZ] at h
  rcases List.mem_append.mp h with h | h
  ·exact ⟨0,e,s,rfl,rfl,by simpa using h⟩
  ·obtain ⟨i,e',s',h1,h2,h3⟩:=spZ_mem h
   refine ⟨i + 1,e',s',by simpa using h1,by simpa using h2, ?_⟩
   simp only [List.take_succ_cons,List.map_cons,List.sum_cons]
   rw [show b + ((Z8 e).length + ((es.take i).map fun e => (Z8 e).length).sum) + (s.2.toNat + ((ss.take i).map fun s => s.2.toNat).sum) + s'.2.toNat = b + s.2.toNat + (Z8 e).length + ((es.take i).map fun e => (Z8 e).length).sum + ((ss.take i).map fun s => s.2.toNat).sum + s'.2.toNat by omega]
   exact h3
theorem steps_ok {it:IT} (g:GdI it):∀ s ∈ Za it,stOk s.1:=by
 intro s m
 cases it with
 | whole n => cases m
 | text n => cases m
 | arm n e => rw [List.mem_singleton.mp m]; exact True.intro
 | lst st ls es =>
  obtain ⟨hs2,hl,gl,gs⟩:=g
  obtain ⟨i,hi⟩:=List.getElem?_of_mem m
  have il:i < ls.length:=by have:=(List.getElem?_eq_some_iff.mp hi).1; rw [show (Za (.lst st ls es)) = Vh 0 ls from rfl,stpL_len] at this; exact this
  have hL:ls[i]? = some ls[i]:=List.getElem?_eq_getElem il
  have:=stpL_get (k:=0) hL
  rw [show (Za (.lst st ls es)) = Vh 0 ls from rfl,this] at hi
  cases hi
  rcases GdL.at hs2 gl _ (List.mem_of_getElem? hL) with ⟨_,e⟩ | ⟨_,x,e,nx⟩ | ⟨_,n,e,_⟩ <;> rw [e]
  ·exact True.intro
  ·have:=nx.2.1
   show x.length ≤ 200
   omega
  ·exact True.intro
theorem sp_reach:∀ (n:Nat) (it:IT) (p:Nat) (path:List Vs),GdI it→∀ t ∈ spF n p path it,∃ sts,t.1 = path ++ sts∧Vf p it sts = some (t.2.1,t.2.2)∧(∀ s ∈ sts,stOk s)∧sts.length ≤ n
 | 0,_,_,_,_,t,m => by simp [spF] at m
 | n + 1,it,p,path,g,t,m => by
  simp only [spF] at m
  rcases List.mem_cons.mp m with rfl | m
  ·exact ⟨[],by simp,rfl,fun s m => absurd m List.not_mem_nil,Nat.zero_le _⟩
  ·obtain ⟨i,e,s,h1,h2,h3⟩:=spZ_mem m
   obtain ⟨sts,x1,x2,x3,x4⟩:=sp_reach n e _ _ (parts_gd g e (List.mem_of_getElem? h1)) t h3
   refine ⟨s.1 :: sts,by rw [x1]; simp, ?_,fun y my => ?_,by rw [List.length_cons]; omega⟩
   ·show (Yn p it s.1).bind (fun r => Vf r.1 r.2 sts) = _
    rw [step_at g h1 h2]
    exact x2
   ·rcases List.mem_cons.mp my with rfl | my
    ·exact steps_ok g s (List.mem_of_getElem? h2)
    ·exact x3 y my
abbrev s_law_refused:Stmt:=top 62
abbrev N_law_refused:List Str:=["_law_ask","_law_file","_law_path","_law_found","e"]
theorem Y4:Ze N_law_refused ["_law_ask","_law_file","_law_path"] (Zk s_law_refused):=by trivial
abbrev Vw:Stmt:=top 63
abbrev N_law_wrong:List Str:=["_law_feed_here","_law_item_here","_law_numbers","_law_names","_law_step","_law_many","_law_number_here","_law_name_here","_law_steps_here","_law_known","_law_some"]
theorem Yz:Ze N_law_wrong ["_law_feed_here","_law_item_here"] (Zk Vw):=by trivial
structure Exs (K:PySem.W.Frag) (M C:Addr) (ds:List Addr):Prop where
 xm:XCls K M
 xc:XCls K C
 mro:PySem.W.mroIn K C (.ref M) = some true
 self:PySem.W.kitOne K (.ref C) (.ref C) = some true
 ve:PySem.W.kitOne K (.ref C) (.type "ValueError") = some true
 any:PySem.W.kitAny K (.ref C) (ds.map Value.ref) = some false
 no:NoAttr K C "step"
theorem b_ValueError:bootBuiltins "ValueError" = some (.type "ValueError"):=by decide +kernel
theorem b_min:bootBuiltins "min" = some (.builtin "min"):=by decide +kernel
def spRf (K:PySem.W.Frag):Sp:=fun vs H Q _ => ∃ (ask:Str) (a pa:Addr) (xs:List V) (it:IT) (pre post:List Vs) (st:Vs) (q:Nat) (e:IT),vs = [.str ask,.ref a,.ref pa]∧Z9 K H a (bv (Z8 it))∧GdI it∧(Z8 it).length ≤ 1000000∧Z9 K H pa xs∧Zm K H ((pre ++ st :: post).map stD) xs∧(∀ s ∈ pre ++ st :: post,stOk s) ∧
 Vf 0 it pre = some (q,e)∧Yn q e st = none∧∀ H',Zf H H'→Q (.int (pre.length:Int)) H'
def wRf (H:Hp) (ask:Str) (a pa:Addr) (C:Addr) (n:Nat):XWT:=fun σ H' _ C' od => σ = [some (.str ask),some (.ref a),some (.ref pa),some (.str "told"),none]∧Zf H H'∧C' = C∧∃ d,od = some d∧H' d = some (DHO d [("step",.int (n:Int))])
section
variable {P:Program} {w:World} {K:PySem.W.Frag} {mg:Str→Option Value} {base:Heap} {f:Addr} {fd:FuncData} {M C c1 c2 c3 c4 c5 c6 c7 c8 c9:Addr}
theorem ok_refused (F:Fun K "_law_refused" "_law_refused" s_law_refused f fd) (m:Bn mg) (mv:mg "ValueError" = none) (X:Exs K M C [c1,c2,c3,c4,c5,c6,c7,c8,c9]) (g_span_at:FnX P w K mg base 7 "span_at" ["file","path"] (spSA K C)) (g_item_at:FnX P w K mg base 8 "item_at" ["file","path"] (spIA K C))
  (x_MakeError:mg "MakeError" = some (.ref M)) (x_NoPlace:mg "NoPlace" = some (.ref C)) (x_BadByte:mg "BadByte" = some (.ref c1)) (x_BadDeed:mg "BadDeed" = some (.ref c2)) (x_BadItem:mg "BadItem" = some (.ref c3)) (x_BadText:mg "BadText" = some (.ref c4))
  (x_NoFile:mg "NoFile" = some (.ref c5)) (x_NoMove:mg "NoMove" = some (.ref c6)) (x_NoRow:mg "NoRow" = some (.ref c7)) (x_NoTable:mg "NoTable" = some (.ref c8)) (x_NoValue:mg "NoValue" = some (.ref c9)) :
  Yd P w K mg base CX0 9 f fd ["_law_ask","_law_file","_law_path"] (spRf K):=by
 have xc_MakeError:=X.xm
 refine F.ok Y4 (fun vs H Q E h => ?_) (fun cdv A outer s H vs Q E hr h => ?_)
 ·obtain ⟨ask,a,pa,xs,it,pre,post,st,q,e,rfl,_⟩:=h
  rfl
 obtain ⟨ask,a,pa,xs,it,pre,post,st,q0,e0,rfl,hS,gd,ln,hpa,ax,sk,rc,ts,q⟩:=h
 refine ⟨_,(@Zj _ _ _ _ _ (@Zg _ 3 _ _ _ _ _ Y4.nd rfl (by trivial) Zd rfl (by trivial)) (@Zj _ _ _ _ _ (@ps_tryX _ (wRf H ask a pa C pre.length) 4 _ _ _ _ _ _ _ _ _ _ _ (fun pn =>  (@Zv _ _ _ (@Yk _ _ _ _ _ _ _ _ (@Zs _ _ _ _ _ _ _ _ Y3 (pv 0) Zd (Z0 _)) (@Zv _ _ _ (@ps_expr _ _ _ _ (@pe_callX _ _ _ _ _ _ _ _ _ _ _ g_span_at xw_tx hr.m rfl (Zy (pv 1) (Zy (pv 2) Zx rfl) rfl) (by decide) rfl rfl) rfl)) (@Zv _ _ _ (@ps_expr _ _ _ _ (@pe_callX _ _ _ _ _ _ _ _ _ _ _ g_item_at xw_tx hr.m rfl (Zy (pv 1) (Zy (pv 2) Zx rfl) rfl) (by decide) rfl rfl) rfl))))) (fun e =>  (@Zj _ _ _ _ _ (@Zg _ 3 _ _ _ _ _ Y4.nd rfl (by trivial) Zd rfl (by trivial)) (@Zj _ _ _ _ _ (@Yk _ _ _ _ _ _ _ _ (@PW.pt _ _ _ (@pw_and _ _ _ _ _ _ _ (@pt_val _ _ _ (@Zp _ _ _ _ _ _ _ _ _ call_isiX rfl m.isinstance Vo (Zy (pv 4) (Zy (@Yo _ _ _ _ rfl x_NoPlace (by decide)) Zx rfl) rfl) (by decide) (by decide) rfl rfl) (by intro _; rfl)) (@pw_and _ _ _ _ _ _ _ (@pt_val _ _ _ (@Zp _ _ _ _ _ _ _ _ _ call_isiXB rfl m.isinstance Vo (Zy (pv 4) (Zy (@pe_bltnT _ _ _ _ rfl mv b_ValueError (by decide) (by decide)) Zx rfl) rfl) (by decide) (by decide) rfl rfl) (by intro _; rfl)) (@pw_and1 _ _ _ _ (@pt_not _ _ _ _ (@pt_val _ _ _ (@Zp _ _ _ _ _ _ _ _ _ call_isiTh rfl m.isinstance Vo (Zy (@pe_fldX _ _ _ _ _ (pv 4) rfl) (Zy (@pe_bltnT _ _ _ _ rfl m.bool b_bool (by decide) (by decide)) Zx rfl) rfl) (by decide) (by decide) rfl rfl) (by intro _; rfl))))))) (@Zv _ _ _ (@Zg _ 3 _ _ _ _ _ Y4.nd rfl (by trivial) (@pe_fldX _ _ _ _ _ (pv 4) rfl) rfl (by trivial))) Zi) (@Zv _ _ _ (@Yk _ _ _ _ _ _ _ _ (@pt_val _ _ _ (@Zp _ _ _ _ _ _ _ _ _ call_isiXT rfl m.isinstance Vo (Zy (pv 4) (Zy (@Z5 _ _ _ _ _ (Zy (@Yo _ _ _ _ rfl x_BadByte (by decide)) (Zy (@Yo _ _ _ _ rfl x_BadDeed (by decide)) (Zy (@Yo _ _ _ _ rfl x_BadItem (by decide)) (Zy (@Yo _ _ _ _ rfl x_BadText (by decide)) (Zy (@Yo _ _ _ _ rfl x_NoFile (by decide)) (Zy (@Yo _ _ _ _ rfl x_NoMove (by decide)) (Zy (@Yo _ _ _ _ rfl x_NoRow (by decide)) (Zy (@Yo _ _ _ _ rfl x_NoTable (by decide)) (Zy (@Yo _ _ _ _ rfl x_NoValue (by decide)) Zx rfl) rfl) rfl) rfl) rfl) rfl) rfl) rfl) rfl)) Zx rfl) rfl) (by decide) (by decide) rfl rfl) (by intro _; rfl)) (@Zv _ _ _ (@Zg _ 3 _ _ _ _ _ Y4.nd rfl (by trivial) Zd rfl (by trivial))) Zi))))) rfl rfl rfl x_MakeError xc_MakeError xc_MakeError.here Y4.nd rfl rfl (by decide)) (@Zv _ _ _ (@Zr _ _ _ _ (pv 3))))), ?_⟩
 have np:∀ {d:Addr} {H1:Hp} {e C':Addr},Zf H H1→H1 d = some (DHO d [("step",.int (pre.length:Int))])→(Value.ref C:Value) = .ref C'→wRf H ask a pa C pre.length [some (.str ask),some (.ref a),some (.ref pa),some (.str "told"),none] H1 e C' (some d):=fun s1 hd ec => by
  cases ec
  exact ⟨rfl,s1,rfl,_,rfl,hd⟩
 refine ⟨fun pn => ⟨_,rfl,rfl,_,rfl, ?_⟩, ?_⟩
 ·refine ite2 (fun c => ?_) (fun c => ?_)
  ·refine ⟨_,rfl,_,rfl,a,pa,xs,it,pre ++ st :: post,rfl,hS,gd,ln,hpa,ax,sk,fun q' e' r' => ?_,fun pre' post' st' q' e' es' rc' ts' d H' s' hd a' C' ec _ => ?_⟩
   ·exfalso
    rw [show pre ++ st :: post = (pre ++ [st]) ++ post by simp,reach_app,reach_snoc rc,ts] at r'
    cases r'
   ·rw [← no_two es' rc ts rc' ts'] at hd
    exact np s' hd ec
  ·exact ⟨_,rfl,_,rfl,a,pa,xs,it,pre,post,st,q0,e0,rfl,hS,gd,ln,hpa,ax,sk,rc,ts,fun d H' s' hd a' C' ec _ => np s' hd ec⟩
 ·rintro σ' H1 e C' od ee ⟨rfl,s1,rfl,d,rfl,hd⟩
  have ix:IsX H1 e C':=⟨some d,false,ee,fun d' e' => by cases e'; exact ⟨_,hd⟩⟩
  refine ⟨X.mro, ?_⟩
  refine ⟨_,rfl,e,C',C',true,rfl,ix,X.xc,X.self,true,rfl,iteT ?_⟩
  refine ⟨_,rfl,e,C',"ValueError",true,rfl,ix,X.xc,X.ve,true,rfl,iteT ?_⟩
  refine ⟨_,rfl,e,C',d,false,_,.int (pre.length:Int),rfl,ee,hd,X.xc,X.no,rfl,.int (pre.length:Int),"bool",.int (pre.length:Int),rfl,rfl,by decide,false,rfl,iteT ?_⟩
  refine ⟨_,rfl,e,C',d,false,_,.int (pre.length:Int),rfl,ee,hd,X.xc,X.no,rfl, ?_⟩
  refine ⟨_,rfl,(sz 9),fun t ht => ?_⟩
  have st':=Zf.lay (o:=.tup (([c1,c2,c3,c4,c5,c6,c7,c8,c9]:List Addr).map V.ref)) ht
  refine ⟨e,C',t,[c1,c2,c3,c4,c5,c6,c7,c8,c9],false,rfl,Zq,⟨some d,false,st' _ _ ee,fun d' e' => by cases e'; exact ⟨_,st' _ _ hd⟩⟩,X.xc,X.any,false,rfl,iteF ⟨_,rfl, ?_⟩⟩
  exact q _ (s1.trans st')
end
def spWr (K:PySem.W.Frag):Sp:=fun vs H Q _ => ∃ (l:Addr) (v:V) (it:IT),vs = [.ref l,v]∧Feed H l∧Yj K H (toD it) v∧GdI it∧(Z3 it).length ≤ 100000 ∧
 ∀ (x:V) (st:Vs) (H':Hp),Ye l H H'→Yj K H' (stD st) x→stOk st→(∀ s ∈ Za it,s.1 ≠ st)→Q x H'
theorem kind_one {it:IT} (g:GdI it):∀ s ∈ Za it,∀ s' ∈ Za it,stS s.1 = stS s'.1:=by
 have z:∀ s ∈ Za it,stS s.1 = itS it:=by
  intro s m
  cases it with
  | whole n => cases m
  | text n => cases m
  | arm n e => rw [List.mem_singleton.mp m]; rfl
  | lst st ls es =>
   obtain ⟨hs2,hl,gl,gs⟩:=g
   obtain ⟨i,hi⟩:=List.getElem?_of_mem m
   have il:i < ls.length:=by have:=(List.getElem?_eq_some_iff.mp hi).1; rw [show (Za (.lst st ls es)) = Vh 0 ls from rfl,stpL_len] at this; exact this
   have hL:ls[i]? = some ls[i]:=List.getElem?_eq_getElem il
   have:=stpL_get (k:=0) hL
   rw [show (Za (.lst st ls es)) = Vh 0 ls from rfl,this] at hi
   cases hi
   exact (sort_stp (GdL.at hs2 gl _ (List.mem_of_getElem? hL))).symm
 intro s m s' m'
 rw [z s m,z s' m']
theorem st_inj {s t:Vs} (h:eqD (stD s) (stD t) = true):s = t:=by
 have e:∀ {a b:Str} {x y:D},eqD (.tup [.str a,x]) (.tup [.str b,y]) = true→a = b∧eqD x y = true:=fun h => by
  simp only [eqD,eqDs,Bool.and_eq_true,Bool.and_true,beq_iff_eq] at h
  exact h
 obtain ⟨h1,h2⟩:=e h
 cases s <;> cases t <;> first
  | (exfalso; revert h1; simp only [stW]; decide +kernel)
  | (simp only [stV] at h2; rw [eq_int] at h2; rw [of_decide_eq_true h2])
  | (simp only [stV,eqD,beq_iff_eq] at h2; rw [h2])
theorem pick {α:Type} (g:α→V) {l:List α} {r:Int} (h0:0 ≤ r) (h1:r < (l.length:Int)):∃ a ∈ l,atI (l.map g) r = some (g a):=by
 obtain ⟨j,rfl⟩:=Int.eq_ofNat_of_zero_le h0
 have hj:j < l.length:=by omega
 refine ⟨l[j],List.getElem_mem hj,L2.Z7 ?_⟩
 rw [List.getElem?_map,List.getElem?_eq_getElem hj]
 rfl
theorem alwT {σ:L2.St} {H:Hp} {A B:Hp→Prop} (h:A H):tAlways σ H fun ok H3 => if ok = true then A H3 else B H3:=(iteY rfl h:if true = true then A H else B H)
theorem len_app (a b:Str):(a ++ b).length = a.length + b.length:=by
 show (a.cps ++ b.cps).size = _
 exact Array.size_append
theorem key_le {it:IT} (g:GdI it) {s:Vs × Int} (m:s ∈ Za it) {y:Str} (hy:s.1 = .key y):y.length ≤ 8:=by
 cases it with
 | whole n => cases m
 | text n => cases m
 | arm n e => rw [List.mem_singleton.mp m] at hy; cases hy
 | lst st ls es =>
  obtain ⟨hs2,hl,gl,gs⟩:=g
  obtain ⟨i,hi⟩:=List.getElem?_of_mem m
  have il:i < ls.length:=by have:=(List.getElem?_eq_some_iff.mp hi).1; rw [show (Za (.lst st ls es)) = Vh 0 ls from rfl,stpL_len] at this; exact this
  have hL:ls[i]? = some ls[i]:=List.getElem?_eq_getElem il
  have:=stpL_get (k:=0) hL
  rw [show (Za (.lst st ls es)) = Vh 0 ls from rfl,this] at hi
  cases hi
  rcases GdL.at hs2 gl _ (List.mem_of_getElem? hL) with ⟨_,e⟩ | ⟨_,x,e,nx⟩ | ⟨_,n,e,_⟩
  ·rw [e] at hy; cases hy
  ·rw [e] at hy
   cases hy
   exact nx.2.1
  ·rw [e] at hy; cases hy
section
variable {P:Program} {w:World} {K:PySem.W.Frag} {mg:Str→Option Value} {base:Heap} {f:Addr} {fd:FuncData}
theorem ok_wrong (F:Fun K "_law_wrong" "_law_wrong" Vw f fd) (m:Bn mg) (mmin:mg "min" = none) (g_law_draw:Fn P w K mg base 1 "_law_draw" ["_law_feed_here","_law_many"] spDraw)
  (g_law_parts:Fn P w K mg base 1 "_law_parts" ["_law_item_here"] (spParts K)) (g_law_steps:Fn P w K mg base 1 "_law_steps" ["_law_item_here"] (spSteps K)):Yd P w K mg base CX0 3 f fd ["_law_feed_here","_law_item_here"] (spWr K):=by
 refine F.ok Yz (fun vs H Q E h => ?_) (fun cdv A outer s H vs Q E hr h => ?_)
 ·obtain ⟨l,v,it,rfl,_⟩:=h
  rfl
 obtain ⟨l,v,it,rfl,fe,hd,gd,pl,q⟩:=h
 have pl':(Z3 it).length ≤ 1000000:=by omega
 have un:∀ n,n ≤ 200→(A.deeper (envOfC "_law_wrong" (Zk Vw) s.heap.objs.size f cdv)).units + n < cLine:=fun n h => by
  have:=hr.un
  omega
 have hz:∀ n:Nat,n ≤ 1000000→n < sizeLine:=fun n h => by have:=sizeLine_eq; omega
 have nI:=Yf it
 have sl:=steps_len gd
 refine ⟨_,(@Zj _ _ _ _ _ (@Zg _ 2 _ _ _ _ _ Yz.nd rfl (by trivial) (@Yl _ _ _ _ (Zy (@pe_un _ _ _ _ _ _ un_neg Zz) (Zy (@pe_un _ _ _ _ _ _ un_neg (@Zb _ _ _ _ _ _ _ _ op_pow Zz Zz)) (Zy Zz (Zy Zz (Zy Zz (Zy (@Zb _ _ _ _ _ _ _ _ op_pow Zz Zz) (Zy (@Zp _ _ _ _ _ _ _ _ _ Z2 rfl m.len b_len (Zy (@Zw _ _ _ _ _ _ _ _ _ _ g_law_parts hr.m rfl (Zy (pv 1) Zx rfl) (by decide) rfl rfl) Zx rfl) (by decide) (by decide) rfl rfl) (Zy (@Zb _ _ _ _ _ _ _ _ Z4 (@Zp _ _ _ _ _ _ _ _ _ Z2 rfl m.len b_len (Zy (@Zw _ _ _ _ _ _ _ _ _ _ g_law_parts hr.m rfl (Zy (pv 1) Zx rfl) (by decide) rfl rfl) Zx rfl) (by decide) (by decide) rfl rfl) Zz) Zx rfl) rfl) rfl) rfl) rfl) rfl) rfl) rfl)) rfl (by trivial)) (@Zj _ _ _ _ _ (@Zg _ 3 _ _ _ _ _ Yz.nd rfl (by trivial) (@Yl _ _ _ _ (Zy Zd (Zy Zd (Zy Zd (Zy Zd (Zy Zd Zx rfl) rfl) rfl) rfl) rfl)) rfl (by trivial)) (@Zj _ _ _ _ _ (@ps_for _ _ _ _ _ _ _ _ PassesOwn.never rfl (@pi_list _ _ _ _ (@Zw _ _ _ _ _ _ _ _ _ _ g_law_steps hr.m rfl (Zy (pv 1) Zx rfl) (by decide) rfl rfl)) (@pg_tup _ _ _ _ _ _ rfl (@Yh _ _ _ _ _ (@Zh _ 4 _ _ Yz.nd rfl (Or.inl rfl) (by trivial)) (@Yh _ _ _ _ _ (@Zh _ 5 _ _ Yz.nd rfl (Or.inl rfl) (by trivial)) pgs_nil (by trivial)) (by trivial)) (by trivial) (by trivial)) (@Zj _ _ _ _ _ (@Yk _ _ _ _ _ _ _ _ (@Zs _ _ _ _ _ _ _ _ op_in_seq (@Zc _ _ _ _ _ _ _ Zl (pv 4) Zz (fun _ _ => rfl)) (@Z5 _ _ _ _ _ (Zy Zd (Zy Zd Zx rfl) rfl)) rfl) (@Zv _ _ _ (@Zg _ 2 _ _ _ _ _ Yz.nd rfl (by trivial) (@Zb _ _ _ _ _ _ _ _ op_cat (pv 2) (@Yl _ _ _ _ (Zy (@Zb _ _ _ _ _ _ _ _ op_sub (@Zc _ _ _ _ _ _ _ Zl (pv 4) Zz (fun _ _ => rfl)) Zz) (Zy (@Zb _ _ _ _ _ _ _ _ Z4 (@Zc _ _ _ _ _ _ _ Zl (pv 4) Zz (fun _ _ => rfl)) Zz) (Zy (@Zc _ _ _ _ _ _ _ Zl (pv 4) Zz (fun _ _ => rfl)) Zx rfl) rfl) rfl))) rfl (by trivial))) Zi) (@Zv _ _ _ (@Yk _ _ _ _ _ _ _ _ (@Zs _ _ _ _ _ _ _ _ Y3 (@Zc _ _ _ _ _ _ _ Zl (pv 4) Zz (fun _ _ => rfl)) Zd (Z0 _)) (@Zv _ _ _ (@Zg _ 3 _ _ _ _ _ Yz.nd rfl (by trivial) (@Zb _ _ _ _ _ _ _ _ op_cat (pv 3) (@Yl _ _ _ _ (Zy (@Zb _ _ _ _ _ _ _ _ op_add_str (@pe_slice _ _ _ _ _ _ _ _ _ _ sl_str (@Zc _ _ _ _ _ _ _ Zl (pv 4) Zz (fun _ _ => rfl)) (@po_none _) (@po_some _ _ _ (@pe_un _ _ _ _ _ _ un_neg Zz))) Zd) (Zy (@Zb _ _ _ _ _ _ _ _ op_add_str (@pe_slice _ _ _ _ _ _ _ _ _ _ sl_str (@Zc _ _ _ _ _ _ _ Zl (pv 4) Zz (fun _ _ => rfl)) (@po_none _) (@po_some _ _ _ Zz)) Zd) (Zy (@pe_slice _ _ _ _ _ _ _ _ _ _ sl_str (@Zc _ _ _ _ _ _ _ Zl (pv 4) Zz (fun _ _ => rfl)) (@po_none _) (@po_some _ _ _ Zz)) Zx rfl) rfl) rfl))) rfl (by trivial))) Zi))) (by trivial)) (@Zj _ _ _ _ _ (@Zg _ 6 _ _ _ _ _ Yz.nd rfl (by trivial) (@Zc _ _ _ _ _ _ _ Yv (pv 2) (@Zw _ _ _ _ _ _ _ _ _ _ g_law_draw hr.m rfl (Zy (pv 0) (Zy (@Zp _ _ _ _ _ _ _ _ _ Z2 rfl m.len b_len (Zy (pv 2) Zx rfl) (by decide) (by decide) rfl rfl) Zx rfl) rfl) (by decide) rfl rfl) (fun _ _ => rfl)) rfl (by trivial)) (@Zj _ _ _ _ _ (@Zg _ 7 _ _ _ _ _ Yz.nd rfl (by trivial) (@Zc _ _ _ _ _ _ _ Yv (pv 3) (@Zw _ _ _ _ _ _ _ _ _ _ g_law_draw hr.m rfl (Zy (pv 0) (Zy (@Zp _ _ _ _ _ _ _ _ _ Z2 rfl m.len b_len (Zy (pv 3) Zx rfl) (by decide) (by decide) rfl rfl) Zx rfl) rfl) (by decide) rfl rfl) (fun _ _ => rfl)) rfl (by trivial)) (@Zj _ _ _ _ _ (@Zg _ 8 _ _ _ _ _ Yz.nd rfl (by trivial) (@Yl _ _ _ _ (Zy (@Z5 _ _ _ _ _ (Zy Zd (Zy (pv 6) Zx rfl) rfl)) (Zy (@Z5 _ _ _ _ _ (Zy Zd (Zy (pv 7) Zx rfl) rfl)) (Zy (@Z5 _ _ _ _ _ (Zy Zd (Zy (@Zp _ _ _ _ _ _ _ _ _ (call_min2 rfl) rfl mmin b_min (Zy Zz (Zy (@Zp _ _ _ _ _ _ _ _ _ (call_max2 rfl) rfl m.max b_max (Zy Zz (Zy (pv 6) Zx rfl) rfl) (by decide) (by decide) rfl rfl) Zx rfl) rfl) (by decide) (by decide) rfl rfl) Zx rfl) rfl)) (Zy (@Z5 _ _ _ _ _ (Zy Zd (Zy (@Zp _ _ _ _ _ _ _ _ _ (call_min2 rfl) rfl mmin b_min (Zy Zz (Zy (@Zp _ _ _ _ _ _ _ _ _ (call_max2 rfl) rfl m.max b_max (Zy Zz (Zy (pv 6) Zx rfl) rfl) (by decide) (by decide) rfl rfl) Zx rfl) rfl) (by decide) (by decide) rfl rfl) Zx rfl) rfl)) Zx rfl) rfl) rfl) rfl)) rfl (by trivial)) (@Zj _ _ _ _ _ (@Zg _ 9 _ _ _ _ _ Yz.nd rfl (by trivial) (@Y6 _ N_law_wrong (Zk Vw) ["_law_step","_law_many"] [none,none] _ _ _ _ _ _ _ _ _ _ rfl (@pi_list _ _ _ _ (@Zw _ _ _ _ _ _ _ _ _ _ g_law_steps hr.m rfl (Zy (pv 1) Zx rfl) (by decide) rfl rfl)) ⟨rfl,rfl,by decide +kernel,by decide +kernel⟩ (fun _ _ _ => (@pg_tup _ _ _ _ _ _ rfl (@Yh _ _ _ _ _ (@Zh _ 0 _ _ (show List.Nodup (["_law_step","_law_many"]:List Str) from by decide +kernel) rfl (Or.inl rfl) (by trivial)) (@Yh _ _ _ _ _ (@Zh _ 1 _ _ (show List.Nodup (["_law_step","_law_many"]:List Str) from by decide +kernel) rfl (Or.inl rfl) (by trivial)) pgs_nil (by trivial)) (by trivial)) (by trivial) (by trivial))) (fun _ _ _ => Vz) (fun _ _ _ => (pv 0)) (by trivial)) rfl (by trivial)) (@Zj _ _ _ _ _ (@ps_setCompI _ 10 N_law_wrong (Zk Vw) ["_law_step","_law_known"] [none,some 9] _ _ _ _ _ _ _ _ _ _ _ _ _ Yz.nd rfl (by trivial) rfl (@pi_list _ _ _ _ (pv 8)) ⟨rfl,rfl,by decide +kernel,by decide +kernel⟩ (fun _ _ _ => (@Zh _ 0 _ _ (show List.Nodup (["_law_step","_law_known"]:List Str) from by decide +kernel) rfl (Or.inl rfl) (by trivial))) (fun _ _ _ => (@pts_one _ _ _ (@Zs _ _ _ _ _ _ _ _ op_notInD (pv 0) (pv 1) rfl))) (fun _ _ _ => (pv 0)) (by trivial) (by trivial) (by trivial)) (@Zv _ _ _ (@Zr _ _ _ _ (@Zc _ _ _ _ _ _ _ Yv (pv 10) (@Zw _ _ _ _ _ _ _ _ _ _ g_law_draw hr.m rfl (Zy (pv 0) (Zy (@Zp _ _ _ _ _ _ _ _ _ Z2 rfl m.len b_len (Zy (pv 10) Zx rfl) (by decide) (by decide) rfl rfl) Zx rfl) rfl) (by decide) rfl rfl) (fun _ _ => rfl)))))))))))), ?_⟩
 have pw:CPow 10 9:=⟨by decide,by decide,by decide⟩
 refine ⟨_,rfl,_,_,rfl,rfl,pw,_,rfl,_,_,rfl,rfl,pw,_,rfl,v,it,rfl,hd,gd,pl',fun rp us H1 s1 h1 a1 => ⟨rp,us,rfl,.inl (Yg.of h1), ?_⟩⟩
 refine ⟨_,rfl,v,it,rfl,Yj.up s1.up _ _ nI hd,gd,pl',fun rp2 us2 H2 s2 h2 a2 => ⟨rp2,us2,rfl,.inl (Yg.of h2),_,_,rfl,rfl,(sz 8),fun ln hln => ?_⟩⟩
 obtain ⟨ns0,hL,ns0l⟩:∃ ns0:List Int,HO.lst [V.int (-1),V.int (-(10 ^ (9:Int).toNat)),V.int 0,V.int 1,V.int 2,V.int (10 ^ (9:Int).toNat),V.int (us.length:Int),V.int ((us2.length:Int) + 1)] = HO.lst (ns0.map V.int)∧ns0.length = 8 :=
  ⟨[-1, -(10 ^ (9:Int).toNat),0,1,2,10 ^ (9:Int).toNat,(us.length:Int),(us2.length:Int) + 1],rfl,rfl⟩
 rw [hL]
 refine ⟨(sz 5),fun lm hlm => ?_⟩
 obtain ⟨xs0,hX,xs0l,xs0g⟩:∃ xs0:List Str,HO.lst [V.str "a",V.str "zzzzzzzz",V.str "q",V.str "abcdefg",V.str "abcdefgh"] = HO.lst (xs0.map V.str)∧xs0.length = 5∧∀ x ∈ xs0,x.length ≤ 200 :=
  ⟨["a","zzzzzzzz","q","abcdefg","abcdefgh"],rfl,rfl,by decide +kernel⟩
 rw [hX]
 have fe2:=((Ye.refl fe).same (s1.trans s2)).feed
 have k1:=fe2.ne hln
 have k2:=(fe2.put (o:=.lst (ns0.map V.int)) k1).ne hlm
 have k3:ln ≠ lm:=Zu Zq hlm
 have s3:=(s1.trans s2).trans ((Zf.lay (o:=.lst (ns0.map V.int)) hln).trans (Zf.lay (o:=.lst (xs0.map V.str)) hlm))
 have ha3:(Zo (Zo H2 ln (.lst (ns0.map V.int))) lm (.lst (xs0.map V.str))) ln = some (.lst (ns0.map V.int)):=by rw [Zt k3]; exact Zq
 have hb3:(Zo (Zo H2 ln (.lst (ns0.map V.int))) lm (.lst (xs0.map V.str))) lm = some (.lst (xs0.map V.str)):=Zq
 show tSeq _ _ _ _ (Zo (Zo H2 ln (.lst (ns0.map V.int))) lm (.lst (xs0.map V.str)))
 generalize (Zo (Zo H2 ln (.lst (ns0.map V.int))) lm (.lst (xs0.map V.str))) = H3 at s3 ha3 hb3
 refine ⟨_,rfl,v,it,rfl,Yj.up s3.up _ _ nI hd,gd,pl',fun rs ss H4 s4 h4 a4 => ⟨rs,rfl,⟨_,Yg.of h4⟩,for_list (xs:=ss) (fun i σ H8 => Zf H4 H8∧∃ (la lb:Addr) (ns:List Int) (xs:List Str) (o4 o5:Option V),
  σ = [some (.ref l),some v,some (.ref la),some (.ref lb),o4,o5,none,none,none,none,none]∧la ≠ l∧lb ≠ l∧H8 la = some (.lst (ns.map V.int))∧0 < ns.length∧ns.length ≤ 8 + 3 * i∧H8 lb = some (.lst (xs.map V.str))∧0 < xs.length∧xs.length ≤ 5 + 3 * i∧∀ x ∈ xs,x.length ≤ 200)
  ⟨Zf.refl _,ln,lm,ns0,xs0,_,_,rfl,k1,k2,s4 _ _ ha3,by omega,by omega,s4 _ _ hb3,by omega,by omega,xs0g⟩ ?_ ?_ ?_⟩⟩
 ·rintro i σ H8 hi ⟨s8,_⟩
  exact Yg.of (s8 _ _ h4)
 ·rintro i x σ H8 hx ⟨s8,la,lb,ns,xs,o4,o5,rfl,na,nb,hla,la0,la1,hlb,lb0,lb1,lg⟩
  have ssl:ss.length = (Za it).length:=by rw [← a4.length,List.length_map]
  have il:i < (Za it).length:=by have:=(List.getElem?_eq_some_iff.mp hx).1; omega
  obtain ⟨sp,hsp⟩:∃ sp,(Za it)[i]? = some sp:=⟨_,List.getElem?_eq_getElem il⟩
  obtain ⟨x',hx',dx⟩:=a4.get (show ((Za it).map sD)[i]? = some (sD sp) by rw [List.getElem?_map,hsp]; rfl)
  rw [hx] at hx'
  cases hx'
  obtain ⟨t,y,z,rfl,ht,dy,dz⟩:=isD2 dx
  obtain rfl:z = .int sp.2:=dz
  obtain ⟨ty,y1,y2,rfl,hty,d1,d2⟩:=isD2 (show Yj K H4 (.tup [.str (stW sp.1),stV sp.1]) y from dy)
  obtain rfl:y1 = .str (stW sp.1):=d1
  refine ⟨t,_,rfl,s8.up _ _ ht,rfl,_,_,rfl,_,_,rfl,rfl, ?_⟩
  have hty8:Z9 K H8 ty [.str (stW sp.1),y2]:=s8.up _ _ hty
  have f8:=((Ye.refl fe).same (s3.trans (s4.trans s8))).feed
  have il':i < 100000:=by omega
  refine ⟨_,rfl,ty,_,_,_,rfl,rfl,hty8,(show atI [V.str (stW sp.1),y2] ((0:Nat):Int) = _ from L2.Z7 (j:=0) rfl),(sz 2),fun tt htt => ⟨tt,_,rfl,.inr (Z9.of Zq),rfl,rfl,_,rfl, ?_⟩⟩
  have s9:=Zf.lay (o:=.tup [.str "field",.str "arm"]) htt
  have f9:=((Ye.refl f8).same s9).feed
  have hty9:=s9.up (K:=K) _ _ hty8
  have hla9:=s9 _ _ hla
  have hlb9:=s9 _ _ hlb
  generalize Zo H8 tt (.tup [.str "field",.str "arm"]) = H9 at s9 f9 hty9 hla9 hlb9
  have kinds:(∃ n:Int,y2 = .int n∧inV (.str (stW sp.1)) [.str "field",.str "arm"] = true∧decide (V.str (stW sp.1) = V.str "key") = false) ∨ (inV (.str (stW sp.1)) [.str "field",.str "arm"] = false∧decide (V.str (stW sp.1) = V.str "key") = false) ∨
    (∃ x:Str,y2 = .str x∧x.length ≤ 8∧inV (.str (stW sp.1)) [.str "field",.str "arm"] = false∧decide (V.str (stW sp.1) = V.str "key") = true):=by
   have kl:=fun y => key_le (y:=y) gd (List.mem_of_getElem? hsp)
   cases e:sp.1 with
   | «at» n => exact .inr (.inl ⟨by simp only [stW]; decide +kernel,(show decide (V.str "at" = V.str "key") = false by decide +kernel)⟩)
   | key x => rw [e] at d2; exact .inr (.inr ⟨x,d2,kl x e,by simp only [stW]; decide +kernel,(show decide (V.str "key" = V.str "key") = true by decide +kernel)⟩)
   | field n => rw [e] at d2; exact .inl ⟨n,d2,by simp only [stW]; decide +kernel,(show decide (V.str "field" = V.str "key") = false by decide +kernel)⟩
   | arm n => rw [e] at d2; exact .inl ⟨n,d2,by simp only [stW]; decide +kernel,(show decide (V.str "arm" = V.str "key") = false by decide +kernel)⟩
  rcases kinds with ⟨n,rfl,i1,i2⟩ | ⟨i1,i2⟩ | ⟨x,rfl,x8,i1,i2⟩
  ·refine iteY i1 ?_
   refine ⟨_,rfl,_,rfl,ty,_,_,_,rfl,rfl,hty9,L2.Z7 (j:=1) rfl,_,_,rfl,rfl,_,rfl,ty,_,_,_,rfl,rfl,hty9,L2.Z7 (j:=1) rfl,_,_,rfl,rfl,_,rfl,ty,_,_,_,rfl,rfl,hty9,L2.Z7 (j:=1) rfl,(sz 3),fun lz hlz =>
    ⟨la,lz,_,_,rfl,rfl,(by rw [Zt (Zu hla9 hlz)]; exact hla9),Zq,(by rw [List.length_map]; exact Nat.le_of_lt (hz _ (by show ns.length + 3 ≤ _; omega))),fun p hp => ?_⟩⟩
   have s10:=Zf.lay (o:=.lst [.int (n - 1),.int (n + 1),.int n]) hlz
   have s11:=s10.trans (Zf.lay (o:=.lst (ns.map V.int ++ [.int (n - 1),.int (n + 1),.int n])) hp)
   have kp:=((Ye.refl f9).same s10).feed.ne hp
   refine ⟨_,rfl,ty,_,_,_,rfl,rfl,s11.up _ _ hty9,(show atI [V.str (stW sp.1),V.int n] ((0:Nat):Int) = _ from L2.Z7 (j:=0) rfl),rfl,_,rfl,Yr i2 ?_⟩
   refine ⟨s8.trans (s9.trans s11),p,lb,ns ++ [n - 1,n + 1,n],xs,_,_,rfl,kp,nb, ?_, ?_, ?_,s11 _ _ hlb9,lb0,by omega,lg⟩
   ·rw [List.map_append]; exact Zq
   ·rw [List.length_append]; omega
   ·rw [List.length_append]; show ns.length + 3 ≤ _; omega
  ·refine Yr i1 ?_
   refine ⟨_,rfl,ty,_,_,_,rfl,rfl,hty9,(show atI [V.str (stW sp.1),y2] ((0:Nat):Int) = _ from L2.Z7 (j:=0) rfl),rfl,_,rfl,Yr i2 ?_⟩
   exact ⟨s8.trans s9,la,lb,ns,xs,_,_,rfl,na,nb,hla9,la0,by omega,hlb9,lb0,by omega,lg⟩
  ·refine Yr i1 ?_
   refine ⟨_,rfl,ty,_,_,_,rfl,rfl,hty9,(show atI [V.str (stW sp.1),V.str x] ((0:Nat):Int) = _ from L2.Z7 (j:=0) rfl),rfl,_,rfl,iteY i2 ?_⟩
   have xz:x.length ≤ sizeLine:=Nat.le_of_lt (hz _ (by omega))
   have l1:∀ c:Str,c.length = 1→∀ z:Str,z.length ≤ x.length→z.length + c.length ≤ sizeLine:=fun c hc z hz' => by rw [hc]; exact Nat.le_of_lt (hz _ (by omega))
   refine ⟨_,rfl,_,rfl,ty,_,_,_,rfl,rfl,hty9,L2.Z7 (j:=1) rfl,_,rfl,_,rfl,x,rfl,xz,fun z1 hz1 => ⟨z1,_,rfl,rfl,l1 _ rfl _ hz1,_,rfl,ty,_,_,_,rfl,rfl,hty9,L2.Z7 (j:=1) rfl,_,rfl,x,rfl,xz,fun z2 hz2 => ⟨z2,_,rfl,rfl,l1 _ rfl _ hz2,_,rfl,ty,_,_,_,rfl,rfl,hty9,L2.Z7 (j:=1) rfl,_,rfl,x,rfl,xz,fun z3 hz3 => ⟨(sz 3),fun lz hlz =>
    ⟨lb,lz,_,_,rfl,rfl,(by rw [Zt (Zu hlb9 hlz)]; exact hlb9),Zq,(by rw [List.length_map]; exact Nat.le_of_lt (hz _ (by show xs.length + 3 ≤ _; omega))),fun p hp => ?_⟩⟩⟩⟩⟩
   have s10:=Zf.lay (o:=.lst [.str (z1 ++ "q"),.str (z2 ++ "a"),.str z3]) hlz
   have s11:=s10.trans (Zf.lay (o:=.lst (xs.map V.str ++ [.str (z1 ++ "q"),.str (z2 ++ "a"),.str z3])) hp)
   have kp:=((Ye.refl f9).same s10).feed.ne hp
   refine ⟨s8.trans (s9.trans s11),la,p,ns,xs ++ [z1 ++ "q",z2 ++ "a",z3],_,_,rfl,na,kp,s11 _ _ hla9,la0,by omega, ?_, ?_, ?_, ?_⟩
   ·rw [List.map_append]; exact Zq
   ·rw [List.length_append]; omega
   ·rw [List.length_append]; show xs.length + 3 ≤ _; omega
   ·intro u mu
    rcases List.mem_append.mp mu with mu | mu
    ·exact lg u mu
    ·have c1:∀ c:Str,c.length = 1→∀ z:Str,z.length ≤ x.length→(z ++ c).length ≤ 200:=fun c hc z hz' => by rw [len_app,hc]; omega
     simp only [List.mem_cons,List.not_mem_nil,or_false] at mu
     rcases mu with rfl | rfl | rfl
     ·exact c1 _ rfl _ hz1
     ·exact c1 _ rfl _ hz2
     ·omega
 rintro σ H8 ⟨s8,la,lb,ns,xs,o4,o5,rfl,na,nb,hla,la0,la1,hlb,lb0,lb1,lg⟩
 have ssl:ss.length = (Za it).length:=by rw [← a4.length,List.length_map]
 have s08:=s3.trans (s4.trans s8)
 have t8:=(Ye.refl fe).same s08
 refine ⟨_,rfl,_,rfl,_,rfl,la,_,rfl,.inl (Yg.of hla),l,_,rfl,t8.feed,(by rw [List.length_map]; omega),(by rw [List.length_map]; omega),fun r9 H9 r0 r1 t9 => ?_⟩
 rw [List.length_map] at r1
 obtain ⟨nh,_,ha⟩:=pick V.int r0 r1
 refine ⟨la,_,r9,.int nh,rfl,rfl,Yg.of (t9.keep _ _ na hla),ha, ?_⟩
 refine ⟨_,rfl,_,rfl,_,rfl,lb,_,rfl,.inl (Yg.of (t9.keep _ _ nb hlb)),l,_,rfl,t9.feed,(by rw [List.length_map]; omega),(by rw [List.length_map]; omega),fun r10 H10 q0 q1 t10 => ?_⟩
 rw [List.length_map] at q1
 obtain ⟨xh,mxh,hb⟩:=pick V.str q0 q1
 have xh2:=lg xh mxh
 refine ⟨lb,_,r10,.str xh,rfl,rfl,Yg.of (t10.keep _ _ nb (t9.keep _ _ nb hlb)),hb, ?_⟩
 have t810:=t8.trans (t9.trans t10)
 refine ⟨_,rfl,(sz 2),fun p1 hp1 => ⟨_,rfl,(sz 2),fun p2 hp2 => ⟨_,rfl,_,_,rfl,_,_,rfl,(sz 2),fun p3 hp3 => ⟨_,rfl,_,_,rfl,_,_,rfl,(sz 2),fun p4 hp4 => ⟨(sz 4),fun lq hlq => ?_⟩⟩⟩⟩⟩
 generalize (if (if nh > 1 then nh else 1) < 999 then (if nh > 1 then nh else 1) else 999) = mm at hp4 hlq
 have a1':=Zf.lay (o:=.tup [.str "at",.int nh]) hp1
 have a2':=Zf.lay (o:=.tup [.str "key",.str xh]) hp2
 have a3':=Zf.lay (o:=.tup [.str "field",.int mm]) hp3
 have a4':=Zf.lay (o:=.tup [.str "arm",.int mm]) hp4
 have a5':=Zf.lay (o:=.lst [.ref p1,.ref p2,.ref p3,.ref p4]) hlq
 have b4:=a4'.trans a5'
 have b3:=a3'.trans b4
 have b2:=a2'.trans b3
 have b1:=a1'.trans b2
 have t14:=t810.same b1
 have e1:=b2 _ _ Zq
 have e2:=b3 _ _ Zq
 have e3:=b4 _ _ Zq
 have e4:=a5' _ _ Zq
 have e5:(Zo (Zo (Zo (Zo (Zo H10 p1 (.tup [.str "at",.int nh])) p2 (.tup [.str "key",.str xh])) p3 (.tup [.str "field",.int mm])) p4 (.tup [.str "arm",.int mm])) lq (.lst [.ref p1,.ref p2,.ref p3,.ref p4])) lq = some (.lst [.ref p1,.ref p2,.ref p3,.ref p4]):=Zq
 show tSeq _ _ _ _ (Zo (Zo (Zo (Zo (Zo H10 p1 (.tup [.str "at",.int nh])) p2 (.tup [.str "key",.str xh])) p3 (.tup [.str "field",.int mm])) p4 (.tup [.str "arm",.int mm])) lq (.lst [.ref p1,.ref p2,.ref p3,.ref p4]))
 generalize (Zo (Zo (Zo (Zo (Zo H10 p1 (.tup [.str "at",.int nh])) p2 (.tup [.str "key",.str xh])) p3 (.tup [.str "field",.int mm])) p4 (.tup [.str "arm",.int mm])) lq (.lst [.ref p1,.ref p2,.ref p3,.ref p4])) = H14 at t14 e1 e2 e3 e4 e5
 have aS:Zm K H14 (([.at nh,.key xh,.field mm,.arm mm]:List Vs).map stD) [.ref p1,.ref p2,.ref p3,.ref p4] :=
  ⟨_,_,rfl,⟨p1,_,rfl,Z9.of e1,_,_,rfl,rfl,_,_,rfl,rfl,rfl⟩,_,_,rfl,⟨p2,_,rfl,Z9.of e2,_,_,rfl,rfl,_,_,rfl,rfl,rfl⟩,_,_,rfl,⟨p3,_,rfl,Z9.of e3,_,_,rfl,rfl,_,_,rfl,rfl,rfl⟩,_,_,rfl,⟨p4,_,rfl,Z9.of e4,_,_,rfl,rfl,_,_,rfl,rfl,rfl⟩,rfl⟩
 have S0:∃ S:List Vs,S = [.at nh,.key xh,.field mm,.arm mm]:=⟨_,rfl⟩
 obtain ⟨S,eS⟩:=S0
 rw [← eS] at aS
 have sok:∀ s ∈ S,stOk s:=by
  rw [eS]
  intro s ms
  simp only [List.mem_cons,List.not_mem_nil,or_false] at ms
  rcases ms with rfl | rfl | rfl | rfl
  ·trivial
  ·exact xh2
  ·trivial
  ·trivial
 have S4:S.length = 4:=by rw [eS]; rfl
 generalize hus:([.ref p1,.ref p2,.ref p3,.ref p4]:List V) = uS at e5 aS
 refine ⟨_,rfl,v,it,rfl,Yj.up (t14.up fe) _ _ nI hd,gd,pl',fun rk sk H15 s15 h15 a15 => ⟨rk,rfl,⟨_,Yg.of h15⟩,fun Dk fpk sxk hDk => ?_⟩⟩
 have skl:sk.length = (Za it).length:=by rw [← a15.length,List.length_map]
 refine comp_list (K:=K) (a:=rk) (xs:=sk) (fun k ys σ H16 => Zf H15 H16∧H16 Dk = some (.lst ys)∧(∃ o1 o2,σ = [o1,o2])∧Zm K H16 ((((Za it).map fun s => s.1).take k).map stD) ys) ⟨Zf.lay hDk,Zq,⟨_,_,rfl⟩,rfl⟩ ?_ ?_ ?_
 ·rintro k ys σ H16 hk ⟨s16,h16,_⟩
  exact ⟨Yg.of (s16 _ _ h15),h16⟩
 ·rintro k x ys σ H16 hx ⟨s16,h16,⟨o1,o2,rfl⟩,ay⟩
  have il:k < (Za it).length:=by have:=(List.getElem?_eq_some_iff.mp hx).1; omega
  obtain ⟨sp,hsp⟩:∃ sp,(Za it)[k]? = some sp:=⟨_,List.getElem?_eq_getElem il⟩
  obtain ⟨x',hx',dx⟩:=a15.get (show ((Za it).map sD)[k]? = some (sD sp) by rw [List.getElem?_map,hsp]; rfl)
  rw [hx] at hx'
  cases hx'
  obtain ⟨t,y,z,rfl,ht,dy,dz⟩:=isD2 dx
  have nst:noL (stD sp.1) = true:=by cases sp.1 <;> rfl
  refine ⟨t,_,rfl,s16.up _ _ ht,rfl,_,_,rfl,_,_,rfl,rfl, ?_⟩
  refine alwT ⟨_,rfl,h16, ?_,s16.put hDk,Zq,⟨_,_,rfl⟩, ?_⟩
  ·rw [← ay.length,List.length_map,List.length_take,List.length_map]; exact hz _ (by omega)
  ·have u6:Up K H16 (Zo H16 Dk (.lst (ys ++ [y]))):=up_set h16
   rw [List.take_succ,show ((Za it).map fun s => s.1)[k]? = some sp.1 by rw [List.getElem?_map,hsp]; rfl,List.map_append]
   exact Zm.append (Zm.up u6 _ _ (Vp _) ay) (Zm.one (Yj.up (s16.up.trans u6) _ _ nst dy))
 rintro ks σk H16 ⟨s16,h16,_,ak⟩
 rw [List.take_of_length_le (by rw [List.length_map]; omega)] at ak
 have s1416:=s15.trans s16
 have e16:=s1416 _ _ e5
 have t16:=t14.same s1416
 refine ⟨_,rfl,lq,rfl,⟨_,Yg.of e16⟩,fun Df fpf sxf hDf => ?_⟩
 have nDf:=t16.feed.ne hDf
 have ul:uS.length = 4:=by rw [← aS.length,List.length_map,S4]
 have nk0:∃ nk:Vs→Bool,nk = fun s => !((((Za it).map fun s => s.1).map stD).any fun e => eqD e (stD s)):=⟨_,rfl⟩
 obtain ⟨nk,enk⟩:=nk0
 refine comp_list (K:=K) (a:=lq) (xs:=uS) (fun k ys σ H17 => Zf H16 H17∧H17 Df = some (.lst ys)∧(∃ o,σ = [o,some (.ref Dk)])∧Zm K H17 (((S.take k).filter nk).map stD) ys) ⟨Zf.lay hDf,Zq,⟨_,rfl⟩,rfl⟩ ?_ ?_ ?_
 ·rintro k ys σ H17 hk ⟨s17,h17,_⟩
  exact ⟨Yg.of (s17 _ _ e16),h17⟩
 ·rintro k x ys σ H17 hx ⟨s17,h17,⟨o,rfl⟩,ay⟩
  have il:k < S.length:=by have:=(List.getElem?_eq_some_iff.mp hx).1; omega
  obtain ⟨sp,hsp⟩:∃ sp,S[k]? = some sp:=⟨_,List.getElem?_eq_getElem il⟩
  obtain ⟨x',hx',dx⟩:=aS.get (show (S.map stD)[k]? = some (stD sp) by rw [List.getElem?_map,hsp]; rfl)
  rw [hx] at hx'
  cases hx'
  have nst:noL (stD sp) = true:=by cases sp <;> rfl
  have dx17:=Yj.up (s1416.trans s17).up _ _ nst dx
  refine ⟨_,rfl,_,rfl,Dk,ks,stD sp,_,rfl,Yg.of (s17 _ _ h16),dx17,Zm.up s17.up _ _ (Vp _) ak, ?_,_,rfl, ?_⟩
  ·intro e me
   obtain ⟨s',_,rfl⟩:=List.mem_map.mp me
   have d5:dpD (stD s') ≤ 5:=by cases s' <;> (simp only [stD,stW,stV,dpD,dpDs]; omega)
   have u5:=un 100 (by omega)
   show (A.deeper (envOfC "_law_wrong" (Zk Vw) s.heap.objs.size f cdv)).units + dpD (stD s') + 10 < cLine
   omega
  ·have enk':nk sp = !((((Za it).map fun s => s.1).map stD).any fun e => eqD e (stD sp)):=by rw [enk]
   rw [← enk']
   refine ite2 (fun c => ⟨_,rfl,h17, ?_,s17.put hDf,Zq,⟨_,rfl⟩, ?_⟩) (fun c => ⟨s17,h17,⟨_,rfl⟩, ?_⟩)
   ·rw [← ay.length,List.length_map]
    have:=List.length_filter_le nk (S.take k)
    rw [List.length_take] at this
    exact hz _ (by omega)
   ·have u6:Up K H17 (Zo H17 Df (.lst (ys ++ [x]))):=up_set h17
    rw [List.take_succ,hsp,List.filter_append,List.map_append]
    refine Zm.append (Zm.up u6 _ _ (Vp _) ay) ?_
    rw [show (some sp).toList.filter nk = [sp] by simp [c]]
    exact Zm.one (Yj.up u6 _ _ nst dx17)
   ·rw [List.take_succ,hsp,List.filter_append,show (some sp).toList.filter nk = [] by simp [c],List.append_nil]
    exact ay
 rintro zs σz H17 ⟨s17,h17,_,az⟩
 rw [List.take_of_length_le (by omega)] at az
 have known:∀ s,nk s = true→∀ s' ∈ Za it,s'.1 ≠ s:=fun s h s' m' e => by
  rw [enk] at h
  simp only [Bool.not_eq_true',List.any_eq_false] at h
  refine h (stD s'.1) (List.mem_map.mpr ⟨s'.1,List.mem_map.mpr ⟨s',m',rfl⟩,rfl⟩) ?_
  rw [e]; exact eqD_refl _
 have unk:∀ s,nk s = false→∃ s' ∈ Za it,s'.1 = s:=fun s h => by
  rw [enk] at h
  simp only [Bool.not_eq_false',List.any_eq_true] at h
  obtain ⟨d,md,ed⟩:=h
  obtain ⟨a,ma,rfl⟩:=List.mem_map.mp md
  obtain ⟨s',m',rfl⟩:=List.mem_map.mp ma
  exact ⟨s',m',st_inj ed⟩
 have ne:0 < (S.filter nk).length:=by
  by_cases c1:nk (.at nh) = true
  ·exact List.length_pos_of_mem (List.mem_filter.mpr ⟨(by rw [eS]; exact List.mem_cons_self),c1⟩)
  by_cases c2:nk (.key xh) = true
  ·exact List.length_pos_of_mem (List.mem_filter.mpr ⟨(by rw [eS]; exact List.mem_cons_of_mem _ List.mem_cons_self),c2⟩)
  exfalso
  obtain ⟨s',m',e'⟩:=unk _ (Bool.eq_false_iff.mpr c1)
  obtain ⟨s'',m'',e''⟩:=unk _ (Bool.eq_false_iff.mpr c2)
  have:=kind_one gd s' m' s'' m''
  rw [e',e''] at this
  revert this
  show ¬ ("row" : Str) = "map"
  decide +kernel
 have zl:zs.length = (S.filter nk).length:=by rw [← az.length,List.length_map]
 have fl:=List.length_filter_le nk S
 have t17:=t16.same s17
 refine ⟨_,rfl,_,rfl,_,rfl,Df,zs,rfl,.inl (Yg.of h17),l,_,rfl,t17.feed,by omega,by omega,fun r18 H18 u0 u1 t18 => ?_⟩
 obtain ⟨j,rfl⟩:=Int.eq_ofNat_of_zero_le u0
 have hj:j < (S.filter nk).length:=by omega
 obtain ⟨zv,hzv,dzv⟩:=az.get (show ((S.filter nk).map stD)[j]? = some (stD (S.filter nk)[j]) by rw [List.getElem?_map,List.getElem?_eq_getElem hj]; rfl)
 obtain ⟨mS,hk⟩:=List.mem_filter.mp (List.getElem_mem hj)
 have nst:noL (stD (S.filter nk)[j]) = true:=by cases (S.filter nk)[j] <;> rfl
 exact ⟨Df,zs,_,zv,rfl,rfl,Yg.of (t18.keep _ _ nDf h17),L2.Z7 hzv,q zv _ H18 (t17.trans t18) (Yj.up (t18.up t17.feed) _ _ nst dzv) (sok _ mS) (known _ hk)⟩
end
abbrev Vd:Stmt:=top 28
abbrev N_unpacked_between:List Str:=["file","begin","end","reader","item"]
theorem sc_unpacked_between:Ze N_unpacked_between ["file","begin","end"] (Zk Vd):=by trivial
abbrev s_law:Stmt:=top 64
abbrev N_law:List Str:=["_law_script","_law_k","_law_feed_here","_law_item_here","_law_file","_law_spans_here","_law_turn","_law_path","_law_begin","_law_end","_law_part","_law_more","_law_bad","_law_ask"]
theorem Vu:Ze N_law ["_law_script"] (Zk s_law):=by trivial
def spLaw (K:PySem.W.Frag):Sp:=fun vs H Q _ => ∃ (a:Addr) (ns:List Int),vs = [.ref a]∧Yg K H a (ns.map V.int)∧ns.length ≤ 63∧∀ H',Q (.bl true) H'
theorem isD4 {K:PySem.W.Frag} {H:Hp} {a b c d:D} {v:V} (h:Yj K H (.tup [a,b,c,d]) v):∃ p x y z u,v = .ref p∧Z9 K H p [x,y,z,u]∧Yj K H a x∧Yj K H b y∧Yj K H c z∧Yj K H d u:=by
 obtain ⟨p,vs,rfl,q,x,r,rfl,i1,y,r2,rfl,i2,z,r3,rfl,i3,u,r4,rfl,i4,e⟩:=h
 have e':r4 = []:=e
 subst e'
 exact ⟨p,x,y,z,u,rfl,q,i1,i2,i3,i4⟩
theorem lnB_mono {k:Nat} (h:k ≤ 5):lnB k ≤ 36300:=by
 match k,h with
 | 0,_ => decide
 | 1,_ => decide
 | 2,_ => decide
 | 3,_ => decide
 | 4,_ => decide
 | 5,_ => decide
theorem parts_le {it:IT} (g:GdI it):(Z3 it).length ≤ (Z8 it).length:=by
 cases it with
 | whole n => exact Nat.zero_le _
 | text n => exact Nat.zero_le _
 | arm n e => have:=byI_ne (.arm n e); show 1 ≤ _; omega
 | lst s ls es =>
  have:=es_len g.2.1
  show es.length ≤ _
  simp only [Z8,List.length_cons,List.length_append]
  omega
section
variable {P:Program} {w:World} {K:PySem.W.Frag} {mg:Str→Option Value} {base:Heap} {f:Addr} {fd:FuncData}
theorem ok_law (F:Fun K "law" "law" s_law f fd) (m:Bn mg) (g_law_feed:Fn P w K mg base 1 "_law_feed" ["_law_script","_law_k"] (spFeed K)) (g_law_draw:Fn P w K mg base 1 "_law_draw" ["_law_feed_here","_law_many"] spDraw)
  (g_law_item:Fn P w K mg base 7 "_law_item" ["_law_feed_here","_law_deep"] (fun vs H Q E => ∃ d,d ≤ 5∧spI K Gd d vs H Q E))
  (g_law_packed:Fn P w K mg base 13 "_law_packed" ["_law_item_here"] (spLPack K (9 + 1))) (g_law_spans:Fn P w K mg base 26 "_law_spans" ["_law_item_here","_law_place","_law_path"] (spSpans K (9 + 1)))
  (g_law_wrong:Fn P w K mg base 3 "_law_wrong" ["_law_feed_here","_law_item_here"] (spWr K)) (g_law_refused:Fn P w K mg base 9 "_law_refused" ["_law_ask","_law_file","_law_path"] (spRf K)):Yd P w K mg base CX0 27 f fd ["_law_script"] (spLaw K):=by
 refine F.ok Vu (fun vs H Q E h => ?_) (fun cdv A outer s H vs Q E hr h => ?_)
 ·obtain ⟨a,ns,rfl,_⟩:=h
  rfl
 obtain ⟨a,ns,rfl,hS,h63,q⟩:=h
 have hz:∀ n:Nat,n ≤ 1000000→n < sizeLine:=fun n h => by have:=sizeLine_eq; omega
 refine ⟨_,(@Zj _ _ _ _ _ (@ps_for _ _ _ _ _ _ _ _ PassesOwn.never rfl (@Vr _ _ _ _ _ _ rfl m.range (Zy Zz Zx rfl) (by trivial)) (@Zh _ 1 _ _ Vu.nd rfl (Or.inl rfl) (by trivial)) (@Zj _ _ _ _ _ (@Zg _ 2 _ _ _ _ _ Vu.nd rfl (by trivial) (@Zw _ _ _ _ _ _ _ _ _ _ g_law_feed hr.m rfl (Zy (pv 0) (Zy (pv 1) Zx rfl) rfl) (by decide) rfl rfl) rfl (by trivial)) (@Zj _ _ _ _ _ (@Zg _ 3 _ _ _ _ _ Vu.nd rfl (by trivial) (@Zw _ _ _ _ _ _ _ _ _ _ g_law_item hr.m rfl (Zy (pv 2) (Zy (@Zb _ _ _ _ _ _ _ _ Z4 Zz (@Zw _ _ _ _ _ _ _ _ _ _ g_law_draw hr.m rfl (Zy (pv 2) (Zy Zz Zx rfl) rfl) (by decide) rfl rfl)) Zx rfl) rfl) (by decide) rfl rfl) rfl (by trivial)) (@Zj _ _ _ _ _ (@Zg _ 4 _ _ _ _ _ Vu.nd rfl (by trivial) (@Zw _ _ _ _ _ _ _ _ _ _ g_law_packed hr.m rfl (Zy (pv 3) Zx rfl) (by decide) rfl rfl) rfl (by trivial)) (@Zj _ _ _ _ _ (@Zg _ 5 _ _ _ _ _ Vu.nd rfl (by trivial) (@Zw _ _ _ _ _ _ _ _ _ _ g_law_spans hr.m rfl (Zy (pv 3) (Zy Zz (Zy (@Z5 _ _ _ _ _ Zx) Zx rfl) rfl) rfl) (by decide) rfl rfl) rfl (by trivial)) (@Zv _ _ _ (@ps_for _ _ _ _ _ _ _ _ PassesOwn.never rfl (@Vr _ _ _ _ _ _ rfl m.range (Zy Zz Zx rfl) (by trivial)) (@Zh _ 6 _ _ Vu.nd rfl (Or.inl rfl) (by trivial)) (@Zj _ _ _ _ _ (@ps_asg _ _ _ _ _ _ (@Zc _ _ _ _ _ _ _ Yv (pv 5) (@Zw _ _ _ _ _ _ _ _ _ _ g_law_draw hr.m rfl (Zy (pv 2) (Zy (@Zp _ _ _ _ _ _ _ _ _ Z2 rfl m.len b_len (Zy (pv 5) Zx rfl) (by decide) (by decide) rfl rfl) Zx rfl) rfl) (by decide) rfl rfl) (fun _ _ => rfl)) (@pg_tup _ _ _ _ _ _ rfl (@Yh _ _ _ _ _ (@Zh _ 7 _ _ Vu.nd rfl (Or.inl rfl) (by trivial)) (@Yh _ _ _ _ _ (@Zh _ 8 _ _ Vu.nd rfl (Or.inl rfl) (by trivial)) (@Yh _ _ _ _ _ (@Zh _ 9 _ _ Vu.nd rfl (Or.inl rfl) (by trivial)) (@Yh _ _ _ _ _ (@Zh _ 10 _ _ Vu.nd rfl (Or.inl rfl) (by trivial)) pgs_nil (by trivial)) (by trivial)) (by trivial)) (by trivial)) (by trivial) (by trivial)) (by trivial) (by trivial) (by trivial)) (@Zj _ _ _ _ _ (@Zg _ 11 _ _ _ _ _ Vu.nd rfl (by trivial) (@Zc _ _ _ _ _ _ _ Yv (@Yl _ _ _ _ (Zy (@Z5 _ _ _ _ _ Zx) (Zy (@Z5 _ _ _ _ _ (Zy (@Z5 _ _ _ _ _ (Zy Zd (Zy Zz Zx rfl) rfl)) Zx rfl)) (Zy (pv 7) Zx rfl) rfl) rfl)) (@Zw _ _ _ _ _ _ _ _ _ _ g_law_draw hr.m rfl (Zy (pv 2) (Zy Zz Zx rfl) rfl) (by decide) rfl rfl) (fun _ _ => rfl)) rfl (by trivial)) (@Zj _ _ _ _ _ (@Zg _ 12 _ _ _ _ _ Vu.nd rfl (by trivial) (@Zb _ _ _ _ _ _ _ _ Vv (@Zb _ _ _ _ _ _ _ _ Vv (pv 7) (@Z5 _ _ _ _ _ (Zy (@Zw _ _ _ _ _ _ _ _ _ _ g_law_wrong hr.m rfl (Zy (pv 2) (Zy (pv 10) Zx rfl) rfl) (by decide) rfl rfl) Zx rfl))) (pv 11)) rfl (by trivial)) (@Zv _ _ _ (@ps_for _ _ _ _ _ _ _ _ PassesOwn.never rfl (@pi_list _ _ _ _ (@Yl _ _ _ _ (Zy Zd (Zy Zd Zx rfl) rfl))) (@Zh _ 13 _ _ Vu.nd rfl (Or.inl rfl) (by trivial)) (@Zv _ _ _ (@Yk _ _ _ _ _ _ _ _ (@Zs _ _ _ _ _ _ _ _ op_ne (@Zw _ _ _ _ _ _ _ _ _ _ g_law_refused hr.m rfl (Zy (pv 13) (Zy (pv 4) (Zy (pv 12) Zx rfl) rfl) rfl) (by decide) rfl rfl) (@Zp _ _ _ _ _ _ _ _ _ Z2 rfl m.len b_len (Zy (pv 7) Zx rfl) (by decide) (by decide) rfl rfl) (Z0 _)) (@Zv _ _ _ (@Zr _ _ _ _ pe_bl)) Zi)) (by trivial)))))) (by trivial))))))) (by trivial)) (@Zv _ _ _ (@Zr _ _ _ _ pe_bl))), ?_⟩
 refine ⟨5,rfl,by decide,by decide,for_range (n:=5) (fun i σ H2 => (∃ o1 o2 o3 o4 o5 o6 o7 o8 o9 o10 o11 o12 o13,σ = [some (.ref a),o1,o2,o3,o4,o5,o6,o7,o8,o9,o10,o11,o12,o13])∧Zf H H2) ⟨⟨_,_,_,_,_,_,_,_,_,_,_,_,_,rfl⟩,Zf.refl H⟩ ?_ ?_⟩
 ·rintro i σ H2 hi ⟨⟨o1,o2,o3,o4,o5,o6,o7,o8,o9,o10,o11,o12,o13,rfl⟩,s2⟩
  refine ⟨_,rfl,_,rfl,a,ns,_,rfl,s2.seq hS,h63,by omega,fun l H3 s3 hl0 fe => ?_⟩
  have nl:H l = none:=s2.free hl0
  have s23:Zf H H3:=s2.trans s3
  refine ⟨_,rfl,_,rfl,l,4,rfl,fe,by decide,by decide,fun r4 H4 a4 b4 t4 => ?_⟩
  have e4:1 + r4 = (((1 + r4).toNat:Nat):Int):=by omega
  refine ⟨_,_,rfl,rfl,(1 + r4).toNat + 1,by omega,l,(by rw [← e4]; rfl),t4.feed,fun v e H5 ie de t5 => ?_⟩
  have t05:=t4.trans t5
  generalize hk:(1 + r4).toNat + 1 = k at ie
  have k5:k ≤ 5:=by omega
  obtain ⟨it,rfl,ni⟩:=itm_it k e ie
  have ln:(Z8 it).length ≤ 36300:=Nat.le_trans ni.ln (lnB_mono k5)
  have dp:dpI it ≤ 5:=Nat.le_trans ni.dp k5
  have gd:=ni.gd
  have nI:=Yf it
  refine ⟨_,rfl,v,it,rfl,de,gd,(show dpI it ≤ 9 + 1 by omega),by omega,fun rq H10 s10 h10 => ?_⟩
  refine ⟨_,rfl,(sz 0),fun pt hpt => ?_⟩
  have s11:=s10.trans (Zf.lay (o:=.tup []) hpt)
  refine ⟨v,.ref pt,it,0,[],rfl,Yj.up s11.up _ _ nI de,gd,(show dpI it ≤ 9 + 1 by omega),by omega,by omega,by simp,⟨pt,[],rfl,Z9.of Zq,rfl⟩,fun rs us H12 s12 h12 a12 => ?_⟩
  have t12:=t05.same (s11.trans s12)
  have f12:Z9 K H12 rq (bv (Z8 it)):=(Zf.trans (Zf.lay hpt) s12).up _ _ h10
  have ul:us.length = (spF (9 + 1) 0 [] it).length:=by rw [← a12.length,List.length_map]
  have ul1:=spF_len (9 + 1) it gd 0 []
  have ul0:1 ≤ (spF (9 + 1) 0 [] it).length:=by simp only [spF,List.length_cons]; omega
  have nrl:rs ≠ l:=fun z => by
   obtain ⟨_,_,_,_,hx⟩:=t12.feed
   rw [z,hx] at h12
   cases h12
   have:=a12.length
   rw [List.length_map] at this
   simp only [spF,List.length_cons,List.length_nil] at this
   simp only [spF] at a12
   obtain ⟨v0,r0,e0,i0,_⟩:=a12
   cases e0
   obtain ⟨_,_,e1,_⟩:=i0
   cases e1
  refine ⟨6,rfl,by decide,by decide,for_range (n:=6) (fun j σ H15 => (∃ o1' o6 o7 o8 o9 o10 o11 o12 o13,σ = [some (.ref a),o1',some (.ref l),some v,some (.ref rq),some (.ref rs),o6,o7,o8,o9,o10,o11,o12,o13])∧Ye l H12 H15) ⟨⟨_,_,_,_,_,_,_,_,_,rfl⟩,Ye.refl t12.feed⟩ ?_ ?_⟩
  ·rintro j σ H15 hj ⟨⟨o1',o6',o7',o8',o9',o10',o11',o12',o13',rfl⟩,t15⟩
   refine ⟨_,rfl,_,rfl,_,rfl,rs,us,rfl,.inl (Yg.of (t15.keep _ _ nrl h12)),l,(us.length:Int),rfl,t15.feed,by omega,by omega,fun r13 H13 a13 b13 t13 => ?_⟩
   obtain ⟨jj,rfl⟩:=Int.eq_ofNat_of_zero_le a13
   have hjj:jj < (spF (9 + 1) 0 [] it).length:=by omega
   obtain ⟨t,ht⟩:∃ t,(spF (9 + 1) 0 [] it)[jj]? = some t:=⟨_,List.getElem?_eq_getElem hjj⟩
   have mt:=List.mem_of_getElem? ht
   obtain ⟨x,hx,dx12⟩:=a12.get (show ((spF (9 + 1) 0 [] it).map spD)[jj]? = some (spD t) by rw [List.getElem?_map,ht]; rfl)
   have t1213:=t15.trans t13
   have h13:=t1213.keep _ _ nrl h12
   have u13:=t1213.up (K:=K) t12.feed
   have dx:=Yj.up u13 _ _ (sp_noL t) dx12
   obtain ⟨sts,e1,rc,sk,_⟩:=sp_reach (9 + 1) it 0 [] gd t mt
   rw [List.nil_append] at e1
   have i0:InF (Z8 it) 0 it:=⟨⟨[],by simp⟩,gd,by omega⟩
   have inn:=reach_in _ i0 rc
   obtain ⟨px,x1,x2,x3,x4,rfl,hpx,d1,d2,d3,d4⟩:=isD4 (show Yj K H13 (.tup [.tup (t.1.map stD),.int ((t.2.1:Nat):Int),.int ((t.2.1 + (Z8 t.2.2).length:Nat):Int),toD t.2.2]) x from dx)
   obtain ⟨pa,xs,rfl,hpa,ax⟩:=d1
   rw [e1] at ax
   have nS:noLs (sts.map stD) = true:=Vp sts
   refine ⟨rs,us,_,.ref px,rfl,rfl,Yg.of h13,L2.Z7 hx,px,_,rfl,hpx,rfl,_,_,rfl,_,_,rfl,_,_,rfl,_,_,rfl,rfl, ?_⟩
   refine ⟨(sz 0),fun m0 hm0 => ⟨(sz 2),fun m1 hm1 => ⟨(sz 1),fun m2 hm2 => ⟨_,rfl,(sz 3),fun ml hml => ?_⟩⟩⟩⟩
   have c4:=Zf.lay (o:=.lst [.ref m0,.ref m2,.ref pa]) hml
   have c3:=(Zf.lay (o:=.tup [.ref m1]) hm2).trans c4
   have c2:=(Zf.lay (o:=.tup [.str "at",.int 0]) hm1).trans c3
   have c1:=(Zf.lay (o:=.tup []) hm0).trans c2
   have v0:=c2 _ _ Zq
   have v1:=c3 _ _ Zq
   have v2:=c4 _ _ Zq
   have v3:(Zo (Zo (Zo (Zo H13 m0 (.tup [])) m1 (.tup [.str "at",.int 0])) m2 (.tup [.ref m1])) ml (.lst [.ref m0,.ref m2,.ref pa])) ml = some (.lst [.ref m0,.ref m2,.ref pa]):=Zq
   have t14:=t1213.same c1
   generalize (Zo (Zo (Zo (Zo H13 m0 (.tup [])) m1 (.tup [.str "at",.int 0])) m2 (.tup [.ref m1])) ml (.lst [.ref m0,.ref m2,.ref pa])) = H14 at c1 v0 v1 v2 v3 t14
   refine ⟨_,rfl,l,3,rfl,t14.feed,by decide,by decide,fun r15 H16 a15 b15 t16 => ?_⟩
   have nml:ml ≠ l:=fun z => by
    obtain ⟨_,_,_,_,hx⟩:=t14.feed
    rw [z,hx] at v3
    cases v3
   have c14:=c1.up (K:=K)
   have u16:=t16.up (K:=K) t14.feed
   have cu:=c14.trans u16
   obtain ⟨mo,mxs,post,hat,hmo,amo,okp,plen⟩:∃ (mo:Addr) (mxs:List V) (post:List Vs),atI [V.ref m0,V.ref m2,V.ref pa] r15 = some (.ref mo)∧Z9 K H16 mo mxs∧Zm K H16 (post.map stD) mxs∧(∀ s ∈ post,stOk s)∧post.length ≤ 1 + sts.length:=by
    rcases (show r15 = 0 ∨ r15 = 1 ∨ r15 = 2 by omega) with rfl | rfl | rfl
    ·exact ⟨m0,[],[],rfl,u16 _ _ (Z9.of v0),rfl,(fun s ms => by cases ms),by simp⟩
    ·refine ⟨m2,_,[.at 0],rfl,u16 _ _ (Z9.of v2),Zm.one ⟨m1,_,rfl,u16 _ _ (Z9.of v1),Zm.two rfl rfl⟩,(fun s ms => by rw [List.mem_singleton.mp ms]; trivial),by simp⟩
    ·exact ⟨pa,xs,sts,rfl,cu _ _ hpa,Zm.up cu _ _ nS ax,sk,by omega⟩
   refine ⟨ml,_,r15,.ref mo,rfl,rfl,Yg.of (t16.keep _ _ nml v3),hat, ?_⟩
   have pl:=parts_le inn.gd
   have il:(Z8 t.2.2).length ≤ (Z8 it).length:=by
    obtain ⟨rr,hrr⟩:=inn.at'
    have:=congrArg List.length hrr
    rw [List.length_drop,List.length_append] at this
    omega
   have t1216:=t14.trans t16
   refine ⟨_,rfl,_,rfl,_,rfl,l,x4,t.2.2,rfl,t1216.feed,Yj.up cu _ _ (Yf _) d4,inn.gd,by omega,fun xw st H17 t17 dw okw nkw => ?_⟩
   refine ⟨(sz 1),fun tq htq => ?_⟩
   have u17:=t17.up (K:=K) t1216.feed
   have t1217:=t1216.trans t17
   have s18:=Zf.lay (o:=.tup [xw]) htq
   have cu17:=(cu.trans u17).trans (s18.up (K:=K))
   have pxl:xs.length = sts.length:=by rw [← ax.length,List.length_map]
   have mxl:mxs.length = post.length:=by rw [← amo.length,List.length_map]
   have stl:sts.length ≤ 10:=by omega
   refine ⟨pa,tq,xs,_,rfl,rfl,cu17 _ _ hpa,Z9.of Zq,Nat.le_of_lt (hz _ (by show xs.length + 1 ≤ _; omega)),fun pb Hb sb hb => ?_⟩
   have sq17:=s18.trans sb
   have um:=(u17.trans (s18.up (K:=K))).trans (sb.up (K:=K))
   refine ⟨_,rfl,pb,mo,_,_,rfl,rfl,hb,um _ _ hmo,Nat.le_of_lt (hz _ (by rw [List.length_append,List.length_singleton]; omega)),fun pc Hc sc hc => ?_⟩
   have t18:=t1217.same (sq17.trans sc)
   have umc:=um.trans (sc.up (K:=K))
   have cuc:=(cu.trans umc)
   have nw:noL (stD st) = true:=by cases st <;> rfl
   have ac:Zm K Hc ((sts ++ st :: post).map stD) (xs ++ [xw] ++ mxs):=by
    rw [show sts ++ st :: post = sts ++ [st] ++ post by simp,List.map_append,List.map_append]
    exact Zm.append (Zm.append (Zm.up cuc _ _ nS ax) (Zm.one (Yj.up (sq17.trans sc).up _ _ nw dw))) (Zm.up umc _ _ (Vp _) amo)
   refine ⟨(sz 2),fun lk hlk => ⟨lk,rfl,⟨_,Yg.of Zq⟩, ?_⟩⟩
   have s19:=Zf.lay (o:=.lst [.str "span",.str "item"]) hlk
   have t19:=t18.same s19
   refine for_list (K:=K) (a:=lk) (xs:=[.str "span",.str "item"]) (fun j σ H20 => (∃ o1' o6 o8 o9 o10 o11 o13,σ = [some (.ref a),o1',some (.ref l),some v,some (.ref rq),some (.ref rs),o6,some (.ref pa),o8,o9,o10,o11,some (.ref pc),o13])∧Zf Hc H20∧H20 lk = some (.lst [.str "span",.str "item"])) ⟨⟨_,_,_,_,_,_,_,rfl⟩,s19,Zq⟩ ?_ ?_ ?_
   ·rintro j σ H20 hj ⟨_,_,s20⟩
    exact Yg.of s20
   ·rintro j x σ H20 hx ⟨⟨o1',o6',o8',o9',o10',o11',o13',rfl⟩,s20,h20⟩
    obtain ⟨ask,rfl⟩:∃ ask:Str,x = .str ask:=by
     rcases List.mem_cons.mp (List.mem_of_getElem? hx) with e | mx
     ·exact ⟨_,e⟩
     ·exact ⟨_,List.mem_singleton.mp mx⟩
    have f20:=(t1213.up (K:=K) t12.feed).trans (cuc.trans (s20.up (K:=K))) _ _ f12
    refine ⟨_,rfl,_,rfl,_,rfl,ask,rq,pc,_,it,sts,post,st,t.2.1,t.2.2,rfl,f20,gd,by omega,s20.up _ _ hc,Zm.up s20.up _ _ (Vp _) ac, ?_,rc,no_step inn.gd nkw,fun H21 s21 => ?_⟩
    ·intro s' ms
     rcases List.mem_append.mp ms with ms | ms
     ·exact sk s' ms
     ·rcases List.mem_cons.mp ms with rfl | ms
      ·exact okw
      ·exact okp s' ms
    ·have s1921:=s20.trans s21
     refine ⟨_,rfl,pa,xs,rfl,.inr ((cuc.trans (s1921.up (K:=K))) _ _ hpa),rfl,_,rfl, ?_⟩
     rw [pxl]
     refine Yr (by simp) ⟨⟨_,_,_,_,_,_,_,rfl⟩,s1921,s21 _ _ h20⟩
   ·rintro σ H20 ⟨⟨o1',o6',o8',o9',o10',o11',o13',rfl⟩,s20,_⟩
    exact ⟨⟨_,_,_,_,_,_,_,_,_,rfl⟩,t18.same s20⟩
  ·rintro σ H15 ⟨⟨o1',o6',o7',o8',o9',o10',o11',o12',o13',rfl⟩,t15⟩
   exact ⟨⟨_,_,_,_,_,_,_,_,_,_,_,_,_,rfl⟩,fun x o hx => (t12.trans t15).keep _ _ (Zu hx nl) (s23 _ _ hx)⟩
 ·rintro σ H2 ⟨_,s2⟩
  exact q _
theorem ok_btw (F:Fun K "unpacked_between" "unpacked_between" Vd f fd):Yd P w K mg base CX0 1 f fd ["file","begin","end"] spNone :=
 F.ok sc_unpacked_between (fun vs H Q E h => h.elim) (fun cdv A outer s H vs Q E hr h => h.elim)
end
def xOk (K:PySem.W.Frag) (C:Addr) (pre:List Value):Bool :=
 PySem.W.findIn K (.ref C) "__setattr__" == some (some (.builtin "object.__setattr__")) && (PySem.W.findIn K (.ref C) "__getattribute__" == some (some (.builtin "BaseException.__getattribute__")) &&
 (PySem.W.findIn K (.ref C) "__getattr__" == some none && (PySem.W.findIn K (.ref C) "__class__" == some (some (.builtin "object.__class__")) && (PySem.W.hasDictIn K C && (PySem.W.typeIn K (.ref C) == some (.type "type") &&
 (((PySem.W.clsIn K C).any fun cd => cd.mro == pre ++ veMro) && (PySem.W.specialIn K (.builtin "object.__class__") "__get__" == some (some (.builtin "getset_descriptor.__get__")) &&
 (PySem.W.takesIn K (.builtin "object.__class__") == some true && (PySem.W.findIn K (.ref C) "step" == some none && (xIn K C && PySem.W.keepIn K (.ref C)))))))))))
theorem only_ve:∀ (as:List Addr),onlyVE (as.map Value.ref ++ veMro) = true
 | [] => by decide +kernel
 | a :: as => only_ve as
structure XOk (K:PySem.W.Frag) (C:Addr) (as:List Addr):Prop where
 xc:XCls K C
 mro:∀ b,PySem.W.mroIn K C b = some ((as.map Value.ref ++ veMro).contains b)
 here:(PySem.W.clsIn K C).isSome = true
 no:NoAttr K C "step"
 made:xIn K C = true
 kp:PySem.W.keepIn K (.ref C) = true
theorem xok_of {K:PySem.W.Frag} {C:Addr} {a:Addr} {as:List Addr} (h:xOk K C ((a :: as).map Value.ref) = true):XOk K C (a :: as):=by
 unfold xOk at h
 simp only [Bool.and_eq_true,beq_iff_eq] at h
 obtain ⟨h1,h2,h3,h4,h5,h6,h7,h8,h9,h10,h11,h12⟩:=h
 obtain ⟨cd,hc,hm⟩:=PySem.W.any_some h7
 have hm:cd.mro = (a :: as).map Value.ref ++ veMro:=beq_iff_eq.mp hm
 have mro:∀ b,PySem.W.mroIn K C b = some (((a :: as).map Value.ref ++ veMro).contains b):=fun b => by
  unfold PySem.W.mroIn
  rw [hc,Option.bind_some,hm]
  rfl
 have inVE:∀ b,veMro.contains b = true→(((a :: as).map Value.ref ++ veMro).contains b) = true:=fun b hb => by
  rw [List.contains_iff_mem] at hb ⊢
  exact List.mem_append_right _ hb
 refine ⟨⟨h1,h2,h3,h4, ?_, ?_,h5,h6, ?_,h8,h9⟩,mro,by rw [hc]; rfl,h10,h11,h12⟩
 ·rw [mro,inVE _ (by decide +kernel)]
 ·rw [mro,inVE _ (by decide +kernel)]
 ·rw [hc]
  show onlyVE cd.mro = true
  rw [hm]; exact only_ve _
theorem XOk.ve {K:PySem.W.Frag} {C M:Addr} (x:XOk K C [C,M]):PySem.W.kitOne K (.ref C) (.type "ValueError") = some true:=by
 unfold PySem.W.kitOne
 rw [if_neg (by simp)]
 unfold PySem.W.kitCls
 dsimp only
 rw [if_pos (by decide +kernel)]
 show PySem.W.mroIn K C (.type "ValueError") = some true
 rw [x.mro]
 exact congrArg some (List.contains_iff_mem.mpr (List.mem_append_right _ (by decide +kernel)))
theorem XOk.up {K:PySem.W.Frag} {C M:Addr} (x:XOk K C [C,M]):PySem.W.mroIn K C (.ref M) = some true:=by
 rw [x.mro]
 congr 1
 rw [List.contains_iff_mem]
 simp
theorem kit_self {K:PySem.W.Frag} {C:Addr}:PySem.W.kitOne K (.ref C) (.ref C) = some true:=by
 unfold PySem.W.kitOne
 rw [if_pos (beq_self_eq_true _)]
structure FA (K:PySem.W.Frag) (x:Str) (st:Stmt) (f:Addr) (fd:FuncData):Prop where
 a:PySem.W.nsIn K mainGlobals x = some (some (.ref f))
 F:Fun K x x st f fd
set_option maxHeartbeats 0 in
theorem all_mk {l:PySem.W.OpenLaw} {w:World} {K:PySem.W.Frag} {h:Heap} {mg:Str→Option Value} {fa f1 f2 f3 f4 f5 f6 f7 f8 f9 f10 f11 f12 f13 f14 f15 f16 f17 f18 f19 f20 f21 f22 f23 f24 f25 f26 f27 f28 f29 aS aT M C c1_ c2_ c3_ c4_ c5_ c6_ c7_ c8_ c9_ gi:Addr} {d1 d2 d3 d4 d5 d6 d7 d8 d9 d10 d11 d12 d13 d14 d15 d16 d17 d18 d19 d20 d21 d22 d23 d24 d25 d26 d27 d28 d29 di:FuncData} (X:K.In h) (G:h.Ns mainGlobals mg) (hfa:mg "law" = some (.ref fa))
  {slS:Array (Option Value)} {nS nT:Nat} {esT:Array DictEntry} {ts0 ts1 ts2 ts3 ts4 ts5 tr tr2 tr3 tr4:Tok}
  (h1:FA K "behind_long" s_behind_long f1 d1)
  (h2:FA K "long_at" s_long_at f2 d2)
  (h3:FA K "unpacked_between" Vd f3 d3)
  (h4:FA K "span_at" s_span_at f4 d4)
  (h5:FA K "item_at" s_item_at f5 d5)
  (h6:FA K "place_behind" Va f6 d6)
  (h7:FA K "codes_of" s_codes_of f7 d7)
  (h8:FA K "arm_part" s_arm_part f8 d8)
  (h9:FA K "room_parts" s_room_parts f9 d9)
  (h10:FA K "behind_label" s_behind_label f10 d10)
  (h11:FA K "label_at" s_label_at f11 d11)
  (h12:FA K "behind_item" s_behind_item f12 d12)
  (h13:FA K "_law_feed" s_law_feed f13 d13)
  (h14:FA K "_law_draw" s_law_draw f14 d14)
  (h15:FA K "_law_name" s_law_name f15 d15)
  (h16:FA K "_law_number" s_law_number f16 d16)
  (h17:FA K "_law_whole" s_law_whole f17 d17)
  (h18:FA K "_law_text" s_law_text f18 d18)
  (h19:FA K "_law_item" s_law_item f19 d19)
  (h20:FA K "_law_parts" s_law_parts f20 d20)
  (h21:FA K "_law_long" s_law_long f21 d21)
  (h22:FA K "_law_key" s_law_key f22 d22)
  (h23:FA K "_law_packed" s_law_packed f23 d23)
  (h24:FA K "_law_steps" Vc f24 d24)
  (h25:FA K "_law_rest" s_law_rest f25 d25)
  (h26:FA K "_law_spans" s_law_spans f26 d26)
  (h27:FA K "_law_refused" s_law_refused f27 d27)
  (h28:FA K "_law_wrong" Vw f28 d28)
  (h29:FA K "law" s_law f29 d29)
  (aM:PySem.W.nsIn K mainGlobals "MakeError" = some (some (.ref M))) (aC:PySem.W.nsIn K mainGlobals "NoPlace" = some (some (.ref C)))
  (aC1:PySem.W.nsIn K mainGlobals "BadByte" = some (some (.ref c1_))) (aC2:PySem.W.nsIn K mainGlobals "BadDeed" = some (some (.ref c2_))) (aC3:PySem.W.nsIn K mainGlobals "BadItem" = some (some (.ref c3_))) (aC4:PySem.W.nsIn K mainGlobals "BadText" = some (some (.ref c4_))) (aC5:PySem.W.nsIn K mainGlobals "NoFile" = some (some (.ref c5_))) (aC6:PySem.W.nsIn K mainGlobals "NoMove" = some (some (.ref c6_))) (aC7:PySem.W.nsIn K mainGlobals "NoRow" = some (some (.ref c7_))) (aC8:PySem.W.nsIn K mainGlobals "NoTable" = some (some (.ref c8_))) (aC9:PySem.W.nsIn K mainGlobals "NoValue" = some (some (.ref c9_)))
  (iC:PySem.W.findIn K (.ref C) "__init__" = some (some (.ref gi))) (J_i:Fun K "__init__" "NoPlace.__init__" s_NoPlace_init gi di) (fJ:PySem.W.isFn K (.ref gi) = true)
  (xm:xOk K M [.ref M] = true) (xn:xOk K C [.ref C,.ref M] = true) (xy:PySem.W.kitAny K (.ref C) [.ref c1_,.ref c2_,.ref c3_,.ref c4_,.ref c5_,.ref c6_,.ref c7_,.ref c8_,.ref c9_] = some false) (zv:PySem.W.nsIn K mainGlobals "ValueError" = some none) (zm:PySem.W.nsIn K mainGlobals "min" = some none)
  (aSo:PySem.W.nsIn K mainGlobals "SORTS" = some (some (.ref aS))) (lSo:K.lookup aS = some ⟨.type "tuple",none,.seq #[.str "whole" ts0,.str "text" ts1,.str "row" ts2,.str "map" ts3,.str "rec" ts4,.str "arm" ts5] nS,slS⟩)
  (aSt:PySem.W.nsIn K mainGlobals "SORTS_OF_STEPS" = some (some (.ref aT))) (lSt:K.lookup aT = some ⟨.type "dict",none,.dict esT nT, #[]⟩) (kSt:PySem.W.KeysLit w.params esT.toList) (bR:PySem.W.nsIn K aT "at" = some (some (.str "row" tr))) (bK:PySem.W.nsIn K aT "key" = some (some (.str "map" tr2))) (bF:PySem.W.nsIn K aT "field" = some (some (.str "rec" tr3))) (bA:PySem.W.nsIn K aT "arm" = some (some (.str "arm" tr4)))
  (z_len:PySem.W.nsIn K mainGlobals "len" = some none) (z_ord:PySem.W.nsIn K mainGlobals "ord" = some none) (z_max:PySem.W.nsIn K mainGlobals "max" = some none) (z_sorted:PySem.W.nsIn K mainGlobals "sorted" = some none) (z_isinstance:PySem.W.nsIn K mainGlobals "isinstance" = some none) (z_tuple:PySem.W.nsIn K mainGlobals "tuple" = some none) (z_list:PySem.W.nsIn K mainGlobals "list" = some none) (z_set:PySem.W.nsIn K mainGlobals "set" = some none) (z_int:PySem.W.nsIn K mainGlobals "int" = some none) (z_str:PySem.W.nsIn K mainGlobals "str" = some none) (z_bool:PySem.W.nsIn K mainGlobals "bool" = some none) (z_range:PySem.W.nsIn K mainGlobals "range" = some none) (z_zip:PySem.W.nsIn K mainGlobals "zip" = some none) (z_reversed:PySem.W.nsIn K mainGlobals "reversed" = some none) (z_enumerate:PySem.W.nsIn K mainGlobals "enumerate" = some none) (z_sum:PySem.W.nsIn K mainGlobals "sum" = some none) :
  ∃ fd:FuncData,(∀ (s:Shared) (v:Value),BindsTo s fd ⟨[v],[]⟩ [("_law_script",v)])∧∀ base:Heap,K.In base→base.Ns mainGlobals mg→Yd l.prog w K mg base CX0 27 fa fd ["_law_script"] (spLaw K):=by
 have e:=hfa.symm.trans (PySem.W.mg_of X G h29.a)
 cases e
 have F_behind_long:=h1.F
 have b_behind_long:=F_behind_long.binds (ps:=["file","at"]) fun _ _ _ _ _ _ us hl => match us,hl with | [_,_],_ => rfl
 have m_behind_long:=PySem.W.mg_of X G h1.a
 have F_long_at:=h2.F
 have b_long_at:=F_long_at.binds (ps:=["file","at"]) fun _ _ _ _ _ _ us hl => match us,hl with | [_,_],_ => rfl
 have m_long_at:=PySem.W.mg_of X G h2.a
 have F_unpacked_between:=h3.F
 have b_unpacked_between:=F_unpacked_between.binds (ps:=["file","begin","end"]) fun _ _ _ _ _ _ us hl => match us,hl with | [_,_,_],_ => rfl
 have m_unpacked_between:=PySem.W.mg_of X G h3.a
 have F_span_at:=h4.F
 have b_span_at:=F_span_at.binds (ps:=["file","path"]) fun _ _ _ _ _ _ us hl => match us,hl with | [_,_],_ => rfl
 have m_span_at:=PySem.W.mg_of X G h4.a
 have F_item_at:=h5.F
 have b_item_at:=F_item_at.binds (ps:=["file","path"]) fun _ _ _ _ _ _ us hl => match us,hl with | [_,_],_ => rfl
 have m_item_at:=PySem.W.mg_of X G h5.a
 have F_place_behind:=h6.F
 have b_place_behind:=F_place_behind.binds (ps:=["file","at","step"]) fun _ _ _ _ _ _ us hl => match us,hl with | [_,_,_],_ => rfl
 have m_place_behind:=PySem.W.mg_of X G h6.a
 have F_codes_of:=h7.F
 have b_codes_of:=F_codes_of.binds (ps:=["name"]) fun _ _ _ _ _ _ us hl => match us,hl with | [_],_ => rfl
 have m_codes_of:=PySem.W.mg_of X G h7.a
 have F_arm_part:=h8.F
 have b_arm_part:=F_arm_part.binds (ps:=["file","at"]) fun _ _ _ _ _ _ us hl => match us,hl with | [_,_],_ => rfl
 have m_arm_part:=PySem.W.mg_of X G h8.a
 have F_room_parts:=h9.F
 have b_room_parts:=F_room_parts.binds (ps:=["file","at"]) fun _ _ _ _ _ _ us hl => match us,hl with | [_,_],_ => rfl
 have m_room_parts:=PySem.W.mg_of X G h9.a
 have F_behind_label:=h10.F
 have b_behind_label:=F_behind_label.binds (ps:=["file","at","sort"]) fun _ _ _ _ _ _ us hl => match us,hl with | [_,_,_],_ => rfl
 have m_behind_label:=PySem.W.mg_of X G h10.a
 have F_label_at:=h11.F
 have b_label_at:=F_label_at.binds (ps:=["file","at","sort"]) fun _ _ _ _ _ _ us hl => match us,hl with | [_,_,_],_ => rfl
 have m_label_at:=PySem.W.mg_of X G h11.a
 have F_behind_item:=h12.F
 have b_behind_item:=F_behind_item.binds (ps:=["file","at"]) fun _ _ _ _ _ _ us hl => match us,hl with | [_,_],_ => rfl
 have m_behind_item:=PySem.W.mg_of X G h12.a
 have F_law_feed:=h13.F
 have b_law_feed:=F_law_feed.binds (ps:=["_law_script","_law_k"]) fun _ _ _ _ _ _ us hl => match us,hl with | [_,_],_ => rfl
 have m_law_feed:=PySem.W.mg_of X G h13.a
 have F_law_draw:=h14.F
 have b_law_draw:=F_law_draw.binds (ps:=["_law_feed_here","_law_many"]) fun _ _ _ _ _ _ us hl => match us,hl with | [_,_],_ => rfl
 have m_law_draw:=PySem.W.mg_of X G h14.a
 have F_law_name:=h15.F
 have b_law_name:=F_law_name.binds (ps:=["_law_feed_here"]) fun _ _ _ _ _ _ us hl => match us,hl with | [_],_ => rfl
 have m_law_name:=PySem.W.mg_of X G h15.a
 have F_law_number:=h16.F
 have b_law_number:=F_law_number.binds (ps:=["_law_feed_here"]) fun _ _ _ _ _ _ us hl => match us,hl with | [_],_ => rfl
 have m_law_number:=PySem.W.mg_of X G h16.a
 have F_law_whole:=h17.F
 have b_law_whole:=F_law_whole.binds (ps:=["_law_feed_here"]) fun _ _ _ _ _ _ us hl => match us,hl with | [_],_ => rfl
 have m_law_whole:=PySem.W.mg_of X G h17.a
 have F_law_text:=h18.F
 have b_law_text:=F_law_text.binds (ps:=["_law_feed_here"]) fun _ _ _ _ _ _ us hl => match us,hl with | [_],_ => rfl
 have m_law_text:=PySem.W.mg_of X G h18.a
 have F_law_item:=h19.F
 have b_law_item:=F_law_item.binds (ps:=["_law_feed_here","_law_deep"]) fun _ _ _ _ _ _ us hl => match us,hl with | [_,_],_ => rfl
 have m_law_item:=PySem.W.mg_of X G h19.a
 have F_law_parts:=h20.F
 have b_law_parts:=F_law_parts.binds (ps:=["_law_item_here"]) fun _ _ _ _ _ _ us hl => match us,hl with | [_],_ => rfl
 have m_law_parts:=PySem.W.mg_of X G h20.a
 have F_law_long:=h21.F
 have b_law_long:=F_law_long.binds (ps:=["_law_n"]) fun _ _ _ _ _ _ us hl => match us,hl with | [_],_ => rfl
 have m_law_long:=PySem.W.mg_of X G h21.a
 have F_law_key:=h22.F
 have b_law_key:=F_law_key.binds (ps:=["_law_key_here"]) fun _ _ _ _ _ _ us hl => match us,hl with | [_],_ => rfl
 have m_law_key:=PySem.W.mg_of X G h22.a
 have F_law_packed:=h23.F
 have b_law_packed:=F_law_packed.binds (ps:=["_law_item_here"]) fun _ _ _ _ _ _ us hl => match us,hl with | [_],_ => rfl
 have m_law_packed:=PySem.W.mg_of X G h23.a
 have F_law_steps:=h24.F
 have b_law_steps:=F_law_steps.binds (ps:=["_law_item_here"]) fun _ _ _ _ _ _ us hl => match us,hl with | [_],_ => rfl
 have m_law_steps:=PySem.W.mg_of X G h24.a
 have F_law_rest:=h25.F
 have b_law_rest:=F_law_rest.binds (ps:=["_law_item_here"]) fun _ _ _ _ _ _ us hl => match us,hl with | [_],_ => rfl
 have m_law_rest:=PySem.W.mg_of X G h25.a
 have F_law_spans:=h26.F
 have b_law_spans:=F_law_spans.binds (ps:=["_law_item_here","_law_place","_law_path"]) fun _ _ _ _ _ _ us hl => match us,hl with | [_,_,_],_ => rfl
 have m_law_spans:=PySem.W.mg_of X G h26.a
 have F_law_refused:=h27.F
 have b_law_refused:=F_law_refused.binds (ps:=["_law_ask","_law_file","_law_path"]) fun _ _ _ _ _ _ us hl => match us,hl with | [_,_,_],_ => rfl
 have m_law_refused:=PySem.W.mg_of X G h27.a
 have F_law_wrong:=h28.F
 have b_law_wrong:=F_law_wrong.binds (ps:=["_law_feed_here","_law_item_here"]) fun _ _ _ _ _ _ us hl => match us,hl with | [_,_],_ => rfl
 have m_law_wrong:=PySem.W.mg_of X G h28.a
 have F_law:=h29.F
 have m:Bn mg:=⟨PySem.W.mg_none_of X G z_len,PySem.W.mg_none_of X G z_ord,PySem.W.mg_none_of X G z_max,PySem.W.mg_none_of X G z_sorted,PySem.W.mg_none_of X G z_isinstance,PySem.W.mg_none_of X G z_tuple,PySem.W.mg_none_of X G z_list,PySem.W.mg_none_of X G z_set,PySem.W.mg_none_of X G z_int,PySem.W.mg_none_of X G z_str,PySem.W.mg_none_of X G z_bool,PySem.W.mg_none_of X G z_range,PySem.W.mg_none_of X G z_zip,PySem.W.mg_none_of X G z_reversed,PySem.W.mg_none_of X G z_enumerate,PySem.W.mg_none_of X G z_sum⟩
 have bi:=J_i.binds (ps:=["self","step"]) fun _ _ _ _ _ _ us hl => match us,hl with | [_,_],_ => rfl
 have om:=xok_of (as:=[]) xm
 have on:=xok_of (as:=[M]) xn
 have mk:XMk K C gi:=⟨on.made,iC,fJ,on.kp⟩
 have xx:Exs K M C [c1_,c2_,c3_,c4_,c5_,c6_,c7_,c8_,c9_]:=⟨om.xc,on.xc,on.up,kit_self,on.ve,xy,on.no⟩
 have so:SortsOk K aS:=⟨⟨_,_,_,lSo,rfl,rfl,rfl,(sz 6),.cons ⟨_,rfl⟩ (.cons ⟨_,rfl⟩ (.cons ⟨_,rfl⟩ (.cons ⟨_,rfl⟩ (.cons ⟨_,rfl⟩ (.cons ⟨_,rfl⟩ .nil)))))⟩⟩
 have x_SORTS:=PySem.W.mg_of X G aSo
 have x_STEPS:=PySem.W.mg_of X G aSt
 have st:StepsOk K w aT:=⟨⟨⟨esT,nT,lSt,kSt⟩⟩,fun s => match s with
  | .at _ => ⟨_,bR,⟨_,rfl⟩⟩
  | .key _ => ⟨_,bK,⟨_,rfl⟩⟩
  | .field _ => ⟨_,bF,⟨_,rfl⟩⟩
  | .arm _ => ⟨_,bA,⟨_,rfl⟩⟩⟩
 obtain ⟨oc,od,kV,doc,pm,an,cdv,ct,osl,rfl,lk,hcd⟩:=F_law.ex
 refine ⟨PySem.W.fnOf "law" "law" (defArgs s_law) (defBody s_law) (Zk s_law) .none kV doc pm an cdv ct,fun s v => .of_eq rfl,fun base _ _ => ?_⟩
 have g_bl:Fn l.prog w K mg base 1 "behind_long" ["file","at"] (spBL K):=⟨_,_,ok_bl F_behind_long,b_behind_long,F_behind_long.kp,m_behind_long⟩
 have g_la:Fn l.prog w K mg base 2 "long_at" ["file","at"] (spLA K):=⟨_,_,ok_la F_long_at m g_bl,b_long_at,F_long_at.kp,m_long_at⟩
 have g_bi:Fn l.prog w K mg base 3 "behind_item" ["file","at"] (spBI K):=⟨_,_,ok_bi F_behind_item so x_SORTS g_bl g_la,b_behind_item,F_behind_item.kp,m_behind_item⟩
 have g_blb:Fn l.prog w K mg base 3 "behind_label" ["file","at","sort"] (spBLb K):=⟨_,_,ok_behind_label F_behind_label g_bl g_la,b_behind_label,F_behind_label.kp,m_behind_label⟩
 have g_lat:Fn l.prog w K mg base 4 "label_at" ["file","at","sort"] (spLbA K):=⟨_,_,ok_label_at F_label_at m g_bl g_la g_blb,b_label_at,F_label_at.kp,m_label_at⟩
 have g_cod:Fn l.prog w K mg base 1 "codes_of" ["name"] (spCo K):=⟨_,_,ok_codes_of F_codes_of m,b_codes_of,F_codes_of.kp,m_codes_of⟩
 have g_arm:Fn l.prog w K mg base 3 "arm_part" ["file","at"] (spAP K):=⟨_,_,ok_arm_part F_arm_part g_bl g_la,b_arm_part,F_arm_part.kp,m_arm_part⟩
 have g_rp:Fn l.prog w K mg base 5 "room_parts" ["file","at"] (spRP K):=⟨_,_,ok_room_parts F_room_parts m so x_SORTS g_bl g_la g_bi g_blb g_lat,b_room_parts,F_room_parts.kp,m_room_parts⟩
 have g_plb:Fn l.prog w K mg base 6 "place_behind" ["file","at","step"] (spPB K):=⟨_,_,ok_place_behind F_place_behind so x_SORTS st x_STEPS g_rp g_cod g_arm,b_place_behind,F_place_behind.kp,m_place_behind⟩
 have f_i:Yd l.prog w K mg base CX0 1 gi _ ["self","step"] (spInit C):=ok_init J_i on.xc on.no
 have x_NP:=PySem.W.mg_of X G aC
 have g_sa:FnX l.prog w K mg base 7 "span_at" ["file","path"] (spSA K C):=⟨_,_,ok_span_at F_span_at m g_plb g_bi on.xc mk f_i x_NP bi,b_span_at,F_span_at.kp,m_span_at⟩
 have g_btw:Fn l.prog w K mg base 1 "unpacked_between" ["file","begin","end"] spNone:=⟨_,_,ok_btw F_unpacked_between,b_unpacked_between,F_unpacked_between.kp,m_unpacked_between⟩
 have g_ia:FnX l.prog w K mg base 8 "item_at" ["file","path"] (spIA K C):=⟨_,_,ok_item_at F_item_at g_sa g_btw,b_item_at,F_item_at.kp,m_item_at⟩
 have g_llo:Fn l.prog w K mg base 1 "_law_long" ["_law_n"] spLong:=⟨_,_,ok_llong F_law_long m,b_law_long,F_law_long.kp,m_law_long⟩
 have g_lke:Fn l.prog w K mg base 2 "_law_key" ["_law_key_here"] (spKey K):=⟨_,_,ok_law_key F_law_key m g_llo,b_law_key,F_law_key.kp,m_law_key⟩
 have g_lpa:Fn l.prog w K mg base 13 "_law_packed" ["_law_item_here"] (spLPack K (9 + 1)):=⟨_,_,ok_law_packed F_law_packed m b_law_packed m_law_packed g_llo g_lke 10,b_law_packed,F_law_packed.kp,m_law_packed⟩
 have gf:Fn l.prog w K mg base 1 "_law_feed" ["_law_script","_law_k"] (spFeed K):=⟨_,_,ok_feed F_law_feed m,b_law_feed,F_law_feed.kp,m_law_feed⟩
 have gr:Fn l.prog w K mg base 1 "_law_draw" ["_law_feed_here","_law_many"] spDraw:=⟨_,_,ok_draw F_law_draw,b_law_draw,F_law_draw.kp,m_law_draw⟩
 have gn:Fn l.prog w K mg base 2 "_law_name" ["_law_feed_here"] (spStrD nameOk):=⟨_,_,ok_name F_law_name m gr,b_law_name,F_law_name.kp,m_law_name⟩
 have gt:Fn l.prog w K mg base 2 "_law_text" ["_law_feed_here"] (spStrD textOk):=⟨_,_,ok_text F_law_text m gr,b_law_text,F_law_text.kp,m_law_text⟩
 have gu:Fn l.prog w K mg base 2 "_law_number" ["_law_feed_here"] (spIntD fun n => 1 ≤ n∧n ≤ 999):=⟨_,_,ok_number F_law_number m gr,b_law_number,F_law_number.kp,m_law_number⟩
 have gw:Fn l.prog w K mg base 2 "_law_whole" ["_law_feed_here"] (spIntD fun n => -1000000000000000000 ≤ n∧n ≤ 1000000000000000000):=⟨_,_,ok_whole F_law_whole m gr,b_law_whole,F_law_whole.kp,m_law_whole⟩
 have git:Fn l.prog w K mg base 7 "_law_item" ["_law_feed_here","_law_deep"] (fun vs H Q E => ∃ d,d ≤ 5∧spI K Gd d vs H Q E):=⟨_,_,Yd.any (C:=fun d => d ≤ 5) fun d hd => (ok_item F_law_item m b_law_item m_law_item gr gn gt gu gw d).mono (by omega),b_law_item,F_law_item.kp,m_law_item⟩
 have g_par:Fn l.prog w K mg base 1 "_law_parts" ["_law_item_here"] (spParts K):=⟨_,_,ok_law_parts F_law_parts m,b_law_parts,F_law_parts.kp,m_law_parts⟩
 have g_stp:Fn l.prog w K mg base 1 "_law_steps" ["_law_item_here"] (spSteps K):=⟨_,_,ok_law_steps F_law_steps m,b_law_steps,F_law_steps.kp,m_law_steps⟩
 have g_rst:Fn l.prog w K mg base 15 "_law_rest" ["_law_item_here"] (spRest K):=⟨_,_,ok_law_rest F_law_rest m g_par g_stp g_lpa,b_law_rest,F_law_rest.kp,m_law_rest⟩
 have g_spn:Fn l.prog w K mg base 26 "_law_spans" ["_law_item_here","_law_place","_law_path"] (spSpans K (9 + 1)):=⟨_,_,ok_law_spans F_law_spans m b_law_spans m_law_spans g_lpa g_rst g_par g_stp 10,b_law_spans,F_law_spans.kp,m_law_spans⟩
 have g_rf:Fn l.prog w K mg base 9 "_law_refused" ["_law_ask","_law_file","_law_path"] (spRf K):=⟨_,_,ok_refused F_law_refused m (PySem.W.mg_none_of X G zv) xx g_sa g_ia (PySem.W.mg_of X G aM) x_NP (PySem.W.mg_of X G aC1) (PySem.W.mg_of X G aC2) (PySem.W.mg_of X G aC3) (PySem.W.mg_of X G aC4) (PySem.W.mg_of X G aC5) (PySem.W.mg_of X G aC6) (PySem.W.mg_of X G aC7) (PySem.W.mg_of X G aC8) (PySem.W.mg_of X G aC9),b_law_refused,F_law_refused.kp,m_law_refused⟩
 have g_wr:Fn l.prog w K mg base 3 "_law_wrong" ["_law_feed_here","_law_item_here"] (spWr K):=⟨_,_,ok_wrong F_law_wrong m (PySem.W.mg_none_of X G zm) gr g_par g_stp,b_law_wrong,F_law_wrong.kp,m_law_wrong⟩
 exact ok_law F_law m gf gr git g_lpa g_spn g_wr g_rf
theorem walk {l:PySem.W.OpenLaw} {q:Program} {loose:List Str} {XP:(Str→Option Value)→Heap→Prop} {YP:World→Heap→Prop} {d:DefRec} {K:Params→PySem.W.Frag} (hn:l.most = some 63) (hdf:d.params.defaults = [])
  (hY:∀ (w:World) (h:Heap),YP w h→(K w.params).In h)
  (F:∀ (w:World) (mg:Str→Option Value) (fa:Addr) (h:Heap),(K w.params).In h→h.Ns mainGlobals mg→mg d.name = some (.ref fa) →
   ∃ fd:FuncData,(∀ (s:Shared) (u:Value),BindsTo s fd ⟨[u],[]⟩ [("_law_script",u)])∧∀ base:Heap,(K w.params).In base→base.Ns mainGlobals mg→Yd l.prog w (K w.params) mg base CX0 27 fa fd ["_law_script"] (spLaw (K w.params))) :
  PySem.W.WalkO q loose XP YP l.row.toRowW d [] (fun f vs => PySem.call f vs) :=
 L2.walk_of (n:=63) (k:=27) (x:="_law_script") (CX:=fun _ => CX0) (sp:=fun w => spLaw (K w.params)) hn (by decide) hdf ⟨rfl,by decide,by decide⟩ hY F (fun _ _ a ns hl _ hS => ⟨a,ns,rfl,hS,hl,fun _ => rfl⟩) fun _ _ _ _ _ z => z
end K07
open PySem PySem.W PyProof.Rows
set_option maxRecDepth 100000 in
set_option maxHeartbeats 0 in
theorem PySem.Challenge.cw_makes_k07_ways_that_lead_nowhere_holds : PySem.Challenge.rw_makes_k07_ways_that_lead_nowhere.Holds := by
 w_on; o_law
 refine holds_open (q:=K07.viewK) (loose:=K07.Y8) (XP:=XL K07.viewK []) (YP:=Hook.says (PySem.W.kHook K07.heapK K07.asK K07.asK_eq)) (N:=8846)
  K07.leftK (Hook.of (PySem.W.kHook K07.heapK K07.asK K07.asK_eq)) (Hook.keeps (PySem.W.kHook K07.heapK K07.asK K07.asK_eq)) (fun s e => xl_of s (Bool.and_eq_true_iff.mp e).1)
  XL.keeps (by rfl) (by rfl) (by rfl) (fun s e => recFacts_of (Bool.and_eq_true_iff.mp e).2) (by rfl) (by assumption)
  (by decide +kernel) ⟨rfl,rfl,rfl,rfl,rfl,by decide +kernel⟩ ?hw ?hc
 case hw => w_witness2
 k_fill
 refine K07.walk (l:=PySem.Challenge.rw_makes_k07_ways_that_lead_nowhere) rfl rfl (fun w h Y => PySem.W.kIn_of Y) ?F
 case F =>
  intro w mg fa h KX G hmg
  refine' K07.all_mk KX G hmg ?h1 ?h2 ?h3 ?h4 ?h5 ?h6 ?h7 ?h8 ?h9 ?h10 ?h11 ?h12 ?h13 ?h14 ?h15 ?h16 ?h17 ?h18 ?h19 ?h20 ?h21 ?h22 ?h23 ?h24 ?h25 ?h26 ?h27 ?h28 ?h29 ?aM ?aC ?aC1 ?aC2 ?aC3 ?aC4 ?aC5 ?aC6 ?aC7 ?aC8 ?aC9 ?iC ?J ?fJ ?xm ?xn ?xy ?zv ?zm ?aSo ?lSo ?aSt ?lSt ?kSt ?bR ?bK ?bF ?bA ?z_len ?z_ord ?z_max ?z_sorted ?z_isinstance ?z_tuple ?z_list ?z_set ?z_int ?z_str ?z_bool ?z_range ?z_zip ?z_reversed ?z_enumerate ?z_sum
  (case h1 => exact ⟨by k_is,L2.Yq (by k_is) (by k_is) (by k_is)⟩)
  (case h2 => exact ⟨by k_is,L2.Yq (by k_is) (by k_is) (by k_is)⟩)
  (case h3 => exact ⟨by k_is,L2.Yq (by k_is) (by k_is) (by k_is)⟩)
  (case h4 => exact ⟨by k_is,L2.Yq (by k_is) (by k_is) (by k_is)⟩)
  (case h5 => exact ⟨by k_is,L2.Yq (by k_is) (by k_is) (by k_is)⟩)
  (case h6 => exact ⟨by k_is,L2.Yq (by k_is) (by k_is) (by k_is)⟩)
  (case h7 => exact ⟨by k_is,L2.Yq (by k_is) (by k_is) (by k_is)⟩)
  (case h8 => exact ⟨by k_is,L2.Yq (by k_is) (by k_is) (by k_is)⟩)
  (case h9 => exact ⟨by k_is,L2.Yq (by k_is) (by k_is) (by k_is)⟩)
  (case h10 => exact ⟨by k_is,L2.Yq (by k_is) (by k_is) (by k_is)⟩)
  (case h11 => exact ⟨by k_is,L2.Yq (by k_is) (by k_is) (by k_is)⟩)
  (case h12 => exact ⟨by k_is,L2.Yq (by k_is) (by k_is) (by k_is)⟩)
  (case h13 => exact ⟨by k_is,L2.Yq (by k_is) (by k_is) (by k_is)⟩)
  (case h14 => exact ⟨by k_is,L2.Yq (by k_is) (by k_is) (by k_is)⟩)
  (case h15 => exact ⟨by k_is,L2.Yq (by k_is) (by k_is) (by k_is)⟩)
  (case h16 => exact ⟨by k_is,L2.Yq (by k_is) (by k_is) (by k_is)⟩)
  (case h17 => exact ⟨by k_is,L2.Yq (by k_is) (by k_is) (by k_is)⟩)
  (case h18 => exact ⟨by k_is,L2.Yq (by k_is) (by k_is) (by k_is)⟩)
  (case h19 => exact ⟨by k_is,L2.Yq (by k_is) (by k_is) (by k_is)⟩)
  (case h20 => exact ⟨by k_is,L2.Yq (by k_is) (by k_is) (by k_is)⟩)
  (case h21 => exact ⟨by k_is,L2.Yq (by k_is) (by k_is) (by k_is)⟩)
  (case h22 => exact ⟨by k_is,L2.Yq (by k_is) (by k_is) (by k_is)⟩)
  (case h23 => exact ⟨by k_is,L2.Yq (by k_is) (by k_is) (by k_is)⟩)
  (case h24 => exact ⟨by k_is,L2.Yq (by k_is) (by k_is) (by k_is)⟩)
  (case h25 => exact ⟨by k_is,L2.Yq (by k_is) (by k_is) (by k_is)⟩)
  (case h26 => exact ⟨by k_is,L2.Yq (by k_is) (by k_is) (by k_is)⟩)
  (case h27 => exact ⟨by k_is,L2.Yq (by k_is) (by k_is) (by k_is)⟩)
  (case h28 => exact ⟨by k_is,L2.Yq (by k_is) (by k_is) (by k_is)⟩)
  (case h29 => exact ⟨by k_is,L2.Yq (by k_is) (by k_is) (by k_is)⟩)
  (case aM => k_is); (case aC => k_is); (case aC1 => k_is); (case aC2 => k_is); (case aC3 => k_is); (case aC4 => k_is); (case aC5 => k_is); (case aC6 => k_is); (case aC7 => k_is); (case aC8 => k_is); (case aC9 => k_is)
  (case iC => k_is); (case fJ => k_is); (case zv => k_is); (case zm => k_is)
  (case J => exact L2.Yq (by k_is) (by k_is) (by k_is))
  (case xm => kernel_rfl); (case xn => kernel_rfl); (case xy => kernel_rfl)
  (case aSo => k_is); (case lSo => k_is); (case aSt => k_is); (case lSt => k_is); (case kSt => k_keys); (case bR => k_is); (case bK => k_is); (case bF => k_is); (case bA => k_is)
  (case z_len => k_is); (case z_ord => k_is); (case z_max => k_is); (case z_sorted => k_is); (case z_isinstance => k_is); (case z_tuple => k_is); (case z_list => k_is); (case z_set => k_is); (case z_int => k_is); (case z_str => k_is); (case z_bool => k_is); (case z_range => k_is); (case z_zip => k_is); (case z_reversed => k_is); (case z_enumerate => k_is); (case z_sum => k_is)
