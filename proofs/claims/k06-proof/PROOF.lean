import PyProof.Rows.All
import Wide.All
import OpenK.AllK
import Wide.FinOn
import Lean
import PyProof.EqAt
import PyProof.EqKinds
import PyProof.NeKinds
import PyProof.TupleCall
import PyProof.Rows.SetFrom
import PyProof.CollectWalk
import PyProof.DictIter
import PyProof.Rows.SortShell
import KE.KDictSum
import PyProof.Rows.SortStr
import PyProof.ZipIter
import KE.KItemsList
import PyProof.Rows.SumAny
import PyProof.Rows.StrJoin2
import PyProof.Rows.ZipGen
import PyProof.ConsumeWalk
import PyProof.FString5
import PyProof.StrOps2
import PyProof.StrWalks
import PyProof.FactsAll.dict
import PyProof.TupleOps
import KE.KRevIter
import PyProof.ListNew
import PyProof.TupleOfGen
import PyProof.Rows.SeqMore
import PyProof.MeetsSeq2
import PyProof.FactsAll.tuple
import PyProof.FactsAll.list
import OpenK.KTop
import KE.KIsAll
import PyProof.Draws
import PyProof.EnumMake
import PyProof.EnumFor
import PyProof.AutoSeq1
import PyProof.ListRange
import PySem.Challenge.RW_makes_k06_whole_looked_into
set_option Elab.async false
set_option linter.all false
set_option maxRecDepth 100000
local macro_rules | `(tactic| trivial) => `(tactic| first | exact .inl rfl | exact .inr rfl | rfl | decide | (intro _; rfl) | exact Or.inl rfl | exact Or.inr rfl | assumption | exact ⟨rfl, rfl, rfl, by decide +kernel, rfl, by decide +kernel, by decide +kernel⟩ | fail)
namespace L2
open PySem PySem.Spec PyProof.Rows
def V1 (s:Stmt) (j:Nat):Stmt:=match s with
 | .ClassDef _ _ _ body _ _ _ _ _ _ _ => body.getD j (.Pass ⟨0,0,0,0⟩)
 | _ => .Pass ⟨0,0,0,0⟩
def defArgs (s:Stmt):Arguments:=match s with
 | .FunctionDef _ a _ _ _ _ _ _ _ _ => a
 | _ => { posonlyargs:=[],args:=[],vararg:=none,kwonlyargs:=[],kw_defaults:=[],kwarg:=none,defaults:=[] }
def defBody (s:Stmt):List Stmt:=match s with
 | .FunctionDef _ _ b _ _ _ _ _ _ _ => b
 | _ => []
def Zk (s:Stmt):Scope:=match s with
 | .FunctionDef _ _ _ _ _ _ sc _ _ _ => sc
 | _ => { kind:=.function,names:=[],isGenerator:=false,isCoroutine:=false }
end L2
namespace K06
open PySem PySem.Spec PyProof.Rows
def top (i:Nat):Stmt:=PySem.Challenge.pw_makes_k06_whole_looked_into.main.body.getD i (.Pass ⟨0,0,0,0⟩)
end K06
namespace L2
open PySem PySem.W PySem.Calls PyProof.Rows
section
variable {tb:String→Option Builtin} {p:Program} {w:World} {m:Nat} {a:Option Value}
def runT (tb:String→Option Builtin) (p:Program) (w:World) (m:Nat) (a:Option Value):Nat→SharedT→Thread→Option SharedT
 | 0,_,_ => none
 | k + 1,s,t => bif through t then some s else bif stepOk m a t then (match stepT (denote tb) p w s t with | some (s',t') => runT tb p w m a k s' t' | none => none) else none
theorem runT_of:∀ {k:Nat} {s s':SharedT} {t:Thread},runT tb p w m a k s t = some s'→topRun tb p w m a k s.abs t = some s'.abs
 | 0,_,_,_,h => by cases h
 | k + 1,s,s',t,h => by
  unfold runT at h
  unfold topRun
  cases ht:through t with
  | true => rw [ht] at h; cases h; rfl
  | false =>
   rw [ht] at h
   cases hk:stepOk m a t with
   | false => rw [hk] at h; cases h
   | true =>
    rw [hk] at h
    cases hs:stepT (denote tb) p w s t with
    | none => rw [hs] at h; cases h
    | some r =>
     obtain ⟨s₂,t₂⟩:=r
     rw [hs] at h
     rw [stepT_spec hs]
     exact runT_of h
end
def mkT:List Obj→Nat→BT→BT
 | [],_,t => t
 | o :: l,i,t => mkT l (i + 1) (t.ins i o)
noncomputable abbrev boot0 (w:World) (os:OsState):Shared:=⟨boot_heap w.params,Array.mk [],boot_drawn,boot_toks,os⟩
noncomputable abbrev bootT (w:World) (os:OsState):SharedT:=⟨mkT (boot_heap w.params).objs.toList 0 .nil,(boot_heap w.params).objs.size,(boot_heap w.params).life,Array.mk [],boot_drawn,boot_toks,os⟩
theorem boot_abs (w:World) (os:OsState):(bootT w os).abs = boot0 w os:=by kernel_rfl
noncomputable abbrev goT (p:Program) (N:Nat) (w:World) (os:OsState):Option SharedT:=runT treeTable p w (boot_heap w.params).objs.size ((boot_heap w.params).nsMap mainGlobals "__annotations__") N (bootT w os) (topStub p)
noncomputable abbrev chkT (p:Program) (w:World) (s:Shared):Bool:=staticsOk (importedModules p.main.body) (boot_heap w.params) s.heap && namesBound p s.heap && gensDone s && laidKept (boot_heap w.params) s.heap
theorem ns_ok (w:World):((boot_heap w.params).isNs mainGlobals && (Array.mk []:Array GenState).size == 0) = true:=by kernel_rfl
theorem map_abs {α:Type _} {o:Option SharedT} {f:Shared→α} {r:α} (h:(o.map fun s => f s.abs) = some r):∃ s,o = some s∧f s.abs = r:=by
 obtain ⟨s,e,q⟩:=Option.map_eq_some_iff.mp h
 exact ⟨s,e,q⟩
theorem top_of {α β:Type} {p:Program} {N:Nat} {w:World} {os:OsState} {f:Shared→α} {g:Shared→β} {x:α} {y:β} (h1:((goT p N w os).map fun s => chkT p w s.abs) = some true)
  (h2:((goT p N w os).map fun s => f s.abs) = some x) (h3:((goT p N w os).map fun s => g s.abs) = some y) :
  (topFrom treeTable p w N (boot0 w os)).map (fun s => (f s,g s)) = some (x,y):=by
 obtain ⟨s,e,c⟩:=map_abs h1
 obtain ⟨s2,e2,c2⟩:=map_abs h2
 obtain ⟨s3,e3,c3⟩:=map_abs h3
 rw [e] at e2 e3
 cases e2
 cases e3
 have r:=runT_of e
 rw [boot_abs] at r
 unfold topFrom
 rw [show ((boot0 w os).heap.isNs mainGlobals && (boot0 w os).gens.size == 0) = true from ns_ok w]
 show Option.map _ (Option.bind (topRun treeTable p w (boot_heap w.params).objs.size ((boot_heap w.params).nsMap mainGlobals "__annotations__") N (boot0 w os) (topStub p)) _) = _
 rw [r]
 show Option.map _ (match chkT p w s.abs with | true => some s.abs | false => none) = _
 rw [c]
 show some (f s.abs,g s.abs) = _
 rw [c2,c3]
end L2
namespace K06
open PySem PySem.Spec PyProof.Rows L2
def viewK:Program:={ PySem.Challenge.pw_makes_k06_whole_looked_into with main:={ PySem.Challenge.pw_makes_k06_whole_looked_into.main with body:=[top 1,top 2,top 3,top 5,top 6,top 7,top 8,top 9,top 10,top 11,top 12,top 13,top 14,top 16,top 17,top 18,top 19,top 20,top 21,top 22,top 23,top 24,top 25,top 26,top 27,top 28,top 29,top 30,top 31,top 32,top 33,top 34,top 36,top 37,top 38,top 39,top 40,top 41,top 42,top 43,top 44,top 45,top 47,top 48,top 49,top 50,top 51,top 52,top 53,top 54,top 55,top 56,top 57,top 58,top 59,top 60,top 61,top 62] } }
def looseK:List Str:=["BELOW_LABELS","SORTS_OF_STEPS"]
abbrev en (P:Params) (x:Str) (t:Tok) (v:Value):DictEntry:=⟨PyData.keyHash P x,.str x t,v⟩
abbrev fo (cls:Value) (nm q:Str) (s:Stmt) (kw doc pm:Value) (an:Option Addr) (cd ct:Value) (sl:Array (Option Value)):Obj:=⟨cls,none,.func (W.fnOf nm q (L2.defArgs s) (L2.defBody s) (L2.Zk s) .none kw doc pm an cd ct),sl⟩
abbrev fn (nm q:Str) (s:Stmt) (md:Str) (t:Nat) (c:Addr):Obj:=fo (.type "function") nm q s .none .none (.str md t) .none (.ref c) .none #[]
abbrev cd (x:Str) (a:Nat) (q:Str) (b c:Nat) (l k:Int) (r1 r2 r3 r4 r5:Addr) (e f:Int) (g:Nat):Obj:=⟨.type "code",.none,.fields #[.str x a,.str q b,.str "/claim/cut.py" c,.int l 0,.int k 0,.int 0 0,.int 0 0,.int 3 0,.ref r1,.bool Bool.true,.int 181 0,.ref r2,.none,.ref r3,.ref r4,.ref r5,.int e 0,.int f 0,.str "/claim/cut.py" g], #[]⟩
noncomputable def heapK:Params→W.Frag:=fun P =>
 (nat_lit 3, ⟨.type "dict", .none, .dict #[en P "__name__" 165 (.str "law_makes_k06_whole_looked_into" 636), en P "__doc__" 166 (.none), en P "__package__" 167 (.none), en P "__loader__" 168 (.builtin "__main__.__loader__#opaque"), en P "__spec__" 169 (.none), en P "__annotations__" 170 (.ref 6), en P "__builtins__" 171 (.ref 4), en P "__file__" 173 (.str "/claim/cut.py" 172), en P "__cached__" 174 (.none), en P "MakeError" 206 (.ref 24), en P "BadByte" 231 (.ref 44), en P "NoPlace" 256 (.ref 63), en P "long_of" 266 (.ref 72), en P "behind_long" 274 (.ref 79), en P "long_at" 284 (.ref 86), en P "LETTERS" 286 (.str "abcdefghijklmnopqrstuvwxyz" 285), en P "SIGNS" 288 (.str " !\"#$&'()*+,-./0123456789:;<=>?@ABCDEFGHIJKLMNOPQRSTUVWXYZ[\\]^_`abcdefghijklmnopqrstuvwxyz{|}~" 287), en P "GREATEST_WHOLE" 290 (.int 1000000000000000000 289), en P "GREATEST_NUMBER" 292 (.int 999 291), en P "LONGEST_TEXT" 294 (.int 200 293), en P "LONGEST_NAME" 296 (.int 8 295), en P "DEEPEST" 298 (.int 100 297), en P "SORTS" 307 (.ref 87), en P "GREATEST_SIZE" 309 (.int 1000000 308), en P "BELOW_LABELS" 318 (.ref 88), en P "packed" 326 (.ref 95), en P "pack_item" 337 (.ref 102), en P "pack_label" 346 (.ref 109), en P "pack_signs" 352 (.ref 114), en P "pack_bytes" 360 (.ref 121), en P "folded" 367 (.ref 128), en P "unfolded" 374 (.ref 135), en P "Reader" 451 (.ref 187), en P "unpacked_between" 462 (.ref 198), en P "next_item" 477 (.ref 205), en P "next_text" 486 (.ref 212), en P "next_sign" 494 (.ref 219), en P "next_letter" 502 (.ref 226), en P "next_label" 511 (.ref 233), en P "next_number" 520 (.ref 240), en P "next_key" 531 (.ref 247), en P "SORTS_OF_STEPS" 546 (.ref 248), en P "span_at" 557 (.ref 255), en P "item_at" 566 (.ref 262), en P "place_behind" 580 (.ref 269), en P "codes_of" 586 (.ref 274), en P "arm_part" 594 (.ref 281), en P "room_parts" 608 (.ref 288), en P "behind_label" 617 (.ref 295), en P "label_at" 626 (.ref 302), en P "behind_item" 635 (.ref 309), en P "_law_feed" 646 (.ref 316), en P "_law_draw" 656 (.ref 323), en P "_law_name" 662 (.ref 328), en P "_law_number" 670 (.ref 335), en P "_law_whole" 679 (.ref 342), en P "_law_text" 685 (.ref 347), en P "_law_item" 691 (.ref 352), en P "_law_wrapped" 701 (.ref 359), en P "_law_parts" 707 (.ref 364), en P "_law_long" 715 (.ref 371), en P "_law_key" 721 (.ref 376), en P "_law_packed" 730 (.ref 383), en P "_law_steps" 736 (.ref 388), en P "_law_rest" 742 (.ref 393), en P "_law_spans" 757 (.ref 400), en P "law" 776 (.ref 407)] 67, #[]⟩) ::
 (nat_lit 71,cd "long_of" 259 "long_of" 260 261 13 1 66 67 68 69 70 264 13 265) ::
 (nat_lit 72,fn "long_of" "long_of" (top 5) "makes.longs" 257 71) ::
 (nat_lit 78,cd "behind_long" 267 "behind_long" 268 269 20 2 73 74 75 76 77 272 20 273) ::
 (nat_lit 79,fn "behind_long" "behind_long" (top 6) "makes.longs" 257 78) ::
 (nat_lit 85,cd "long_at" 275 "long_at" 276 277 24 2 80 81 82 83 84 282 24 283) ::
 (nat_lit 86,fn "long_at" "long_at" (top 7) "makes.longs" 257 85) ::
 (nat_lit 87,⟨.type "tuple",.none,.seq #[.str "whole" 301,.str "text" 302,.str "row" 303,.str "map" 304,.str "rec" 305,.str "arm" 306], #[]⟩) ::
 (nat_lit 88,⟨.type "dict",.none,.dict #[en P "row" 310 (.none),en P "map" 311 (.str "" 312),en P "rec" 313 (.int 0 314)] 3, #[]⟩) ::
 (nat_lit 94,cd "packed" 319 "packed" 320 321 40 1 89 90 91 92 93 324 40 325) ::
 (nat_lit 95,fn "packed" "packed" (top 19) "makes.packing" 299 94) ::
 (nat_lit 101,cd "pack_item" 327 "pack_item" 328 329 44 2 96 97 98 99 100 335 44 336) ::
 (nat_lit 102,fn "pack_item" "pack_item" (top 20) "makes.packing" 299 101) ::
 (nat_lit 108,cd "pack_label" 338 "pack_label" 339 340 60 3 103 104 105 106 107 344 60 345) ::
 (nat_lit 109,fn "pack_label" "pack_label" (top 21) "makes.packing" 299 108) ::
 (nat_lit 113,⟨.type "code",.none,.fields #[.str "pack_signs" 347,.str "pack_signs" 348,.str "/claim/cut.py" 349,.int 65 0,.int 2 0,.int 0 0,.int 0 0,.int 3 0,.ref 110,.bool Bool.true,.int 181 0,.ref 111,.none,.none,.none,.ref 112,.int 350 0,.int 65 0,.str "/claim/cut.py" 351], #[]⟩) ::
 (nat_lit 114,fn "pack_signs" "pack_signs" (top 22) "makes.packing" 299 113) ::
 (nat_lit 120,cd "pack_bytes" 353 "pack_bytes" 354 355 68 2 115 116 117 118 119 358 68 359) ::
 (nat_lit 121,fn "pack_bytes" "pack_bytes" (top 23) "makes.packing" 299 120) ::
 (nat_lit 127,cd "folded" 361 "folded" 362 363 70 1 122 123 124 125 126 365 70 366) ::
 (nat_lit 128,fn "folded" "folded" (top 24) "makes.packing" 299 127) ::
 (nat_lit 134,cd "unfolded" 368 "unfolded" 369 370 72 1 129 130 131 132 133 372 72 373) ::
 (nat_lit 135,fn "unfolded" "unfolded" (top 25) "makes.packing" 299 134) ::
 (nat_lit 148,cd "__init__" 387 "Reader.__init__" 388 389 76 4 143 144 145 146 147 394 76 395) ::
 (nat_lit 149,fn "__init__" "Reader.__init__" (V1 (top 26) 0) "makes.packing" 299 148) ::
 (nat_lit 155,cd "next_byte" 397 "Reader.next_byte" 398 399 81 1 150 151 152 153 154 401 81 402) ::
 (nat_lit 156,fn "next_byte" "Reader.next_byte" (V1 (top 26) 1) "makes.packing" 299 155) ::
 (nat_lit 162,cd "must" 404 "Reader.must" 405 406 87 2 157 158 159 160 161 409 87 410) ::
 (nat_lit 163,fn "must" "Reader.must" (V1 (top 26) 2) "makes.packing" 299 162) ::
 (nat_lit 169,cd "next_long" 412 "Reader.next_long" 413 414 91 2 164 165 166 167 168 421 91 422) ::
 (nat_lit 170,fn "next_long" "Reader.next_long" (V1 (top 26) 3) "makes.packing" 299 169) ::
 (nat_lit 176,cd "enter_room" 424 "Reader.enter_room" 425 426 104 1 171 172 173 174 175 430 104 431) ::
 (nat_lit 177,fn "enter_room" "Reader.enter_room" (V1 (top 26) 4) "makes.packing" 299 176) ::
 (nat_lit 183,cd "leave_room" 433 "Reader.leave_room" 434 435 111 2 178 179 180 181 182 438 111 439) ::
 (nat_lit 184,fn "leave_room" "Reader.leave_room" (V1 (top 26) 5) "makes.packing" 299 183) ::
 (nat_lit 186,⟨.type "dict",.none,.dict #[en P "__module__" 382 (.str "makes.packing" 299),en P "__firstlineno__" 386 (.int 74 385),en P "__init__" 396 (.ref 149),en P "next_byte" 403 (.ref 156),en P "must" 411 (.ref 163),en P "next_long" 423 (.ref 170),en P "enter_room" 432 (.ref 177),en P "leave_room" 440 (.ref 184),en P "__static_attributes__" 444 (.ref 185),en P "__dict__" 446 (.ref 188),en P "__weakref__" 448 (.ref 189),en P "__doc__" 449 (.none)] 4, #[]⟩) ::
 (nat_lit 187,⟨.type "type",.none,.cls { name:="Reader",bases:=[.type "object"],mro:=[.ref 187,.type "object"],ns:=186,qualname:="Reader" }, #[.none,.none,.some (.str "Reader" 375),.some (.str "Reader" 383),.some (.builtin "object.__new__"),.some (.bool Bool.true)]⟩) ::
 (nat_lit 197,cd "unpacked_between" 452 "unpacked_between" 453 454 113 3 192 193 194 195 196 460 113 461) ::
 (nat_lit 198,fn "unpacked_between" "unpacked_between" (top 27) "makes.packing" 299 197) ::
 (nat_lit 204,cd "next_item" 463 "next_item" 464 465 119 2 199 200 201 202 203 475 119 476) ::
 (nat_lit 205,fn "next_item" "next_item" (top 28) "makes.packing" 299 204) ::
 (nat_lit 211,cd "next_text" 478 "next_text" 479 480 139 1 206 207 208 209 210 484 139 485) ::
 (nat_lit 212,fn "next_text" "next_text" (top 29) "makes.packing" 299 211) ::
 (nat_lit 218,cd "next_sign" 487 "next_sign" 488 489 144 1 213 214 215 216 217 492 144 493) ::
 (nat_lit 219,fn "next_sign" "next_sign" (top 30) "makes.packing" 299 218) ::
 (nat_lit 225,cd "next_letter" 495 "next_letter" 496 497 148 1 220 221 222 223 224 500 148 501) ::
 (nat_lit 226,fn "next_letter" "next_letter" (top 31) "makes.packing" 299 225) ::
 (nat_lit 232,cd "next_label" 503 "next_label" 504 505 152 3 227 228 229 230 231 509 152 510) ::
 (nat_lit 233,fn "next_label" "next_label" (top 32) "makes.packing" 299 232) ::
 (nat_lit 239,cd "next_number" 512 "next_number" 513 514 158 2 234 235 236 237 238 518 158 519) ::
 (nat_lit 240,fn "next_number" "next_number" (top 33) "makes.packing" 299 239) ::
 (nat_lit 246,cd "next_key" 521 "next_key" 522 523 162 2 241 242 243 244 245 529 162 530) ::
 (nat_lit 247,fn "next_key" "next_key" (top 34) "makes.packing" 299 246) ::
 (nat_lit 248,⟨.type "dict",.none,.dict #[en P "at" 534 (.str "row" 535),en P "key" 536 (.str "map" 537),en P "field" 538 (.str "rec" 539),en P "arm" 540 (.str "arm" 541)] 4, #[]⟩) ::
 (nat_lit 254,cd "span_at" 547 "span_at" 548 549 172 2 249 250 251 252 253 555 172 556) ::
 (nat_lit 255,fn "span_at" "span_at" (top 37) "makes.looking" 532 254) ::
 (nat_lit 261,cd "item_at" 558 "item_at" 559 560 179 2 256 257 258 259 260 564 179 565) ::
 (nat_lit 262,fn "item_at" "item_at" (top 38) "makes.looking" 532 261) ::
 (nat_lit 268,cd "place_behind" 567 "place_behind" 568 569 182 3 263 264 265 266 267 578 182 579) ::
 (nat_lit 269,fn "place_behind" "place_behind" (top 39) "makes.looking" 532 268) ::
 (nat_lit 273,⟨.type "code",.none,.fields #[.str "codes_of" 581,.str "codes_of" 582,.str "/claim/cut.py" 583,.int 192 0,.int 1 0,.int 0 0,.int 0 0,.int 3 0,.ref 270,.bool Bool.true,.int 181 0,.ref 271,.none,.none,.none,.ref 272,.int 584 0,.int 192 0,.str "/claim/cut.py" 585], #[]⟩) ::
 (nat_lit 274,fn "codes_of" "codes_of" (top 40) "makes.looking" 532 273) ::
 (nat_lit 280,cd "arm_part" 587 "arm_part" 588 589 194 2 275 276 277 278 279 592 194 593) ::
 (nat_lit 281,fn "arm_part" "arm_part" (top 41) "makes.looking" 532 280) ::
 (nat_lit 287,cd "room_parts" 595 "room_parts" 596 597 196 2 282 283 284 285 286 606 196 607) ::
 (nat_lit 288,fn "room_parts" "room_parts" (top 42) "makes.looking" 532 287) ::
 (nat_lit 294,cd "behind_label" 609 "behind_label" 610 611 207 3 289 290 291 292 293 615 207 616) ::
 (nat_lit 295,fn "behind_label" "behind_label" (top 43) "makes.looking" 532 294) ::
 (nat_lit 301,cd "label_at" 618 "label_at" 619 620 213 3 296 297 298 299 300 624 213 625) ::
 (nat_lit 302,fn "label_at" "label_at" (top 44) "makes.looking" 532 301) ::
 (nat_lit 308,cd "behind_item" 627 "behind_item" 628 629 217 2 303 304 305 306 307 633 217 634) ::
 (nat_lit 309,fn "behind_item" "behind_item" (top 45) "makes.looking" 532 308) ::
 (nat_lit 315,cd "_law_feed" 638 "_law_feed" 639 640 225 2 310 311 312 313 314 644 225 645) ::
 (nat_lit 316,fn "_law_feed" "_law_feed" (top 47) "law_makes_k06_whole_looked_into" 636 315) ::
 (nat_lit 322,cd "_law_draw" 647 "_law_draw" 648 649 230 2 317 318 319 320 321 654 230 655) ::
 (nat_lit 323,fn "_law_draw" "_law_draw" (top 48) "law_makes_k06_whole_looked_into" 636 322) ::
 (nat_lit 327,⟨.type "code",.none,.fields #[.str "_law_name" 657,.str "_law_name" 658,.str "/claim/cut.py" 659,.int 240 0,.int 1 0,.int 0 0,.int 0 0,.int 3 0,.ref 324,.bool Bool.true,.int 181 0,.ref 325,.none,.none,.none,.ref 326,.int 660 0,.int 240 0,.str "/claim/cut.py" 661], #[]⟩) ::
 (nat_lit 328,fn "_law_name" "_law_name" (top 49) "law_makes_k06_whole_looked_into" 636 327) ::
 (nat_lit 334,cd "_law_number" 663 "_law_number" 664 665 246 1 329 330 331 332 333 668 246 669) ::
 (nat_lit 335,fn "_law_number" "_law_number" (top 50) "law_makes_k06_whole_looked_into" 636 334) ::
 (nat_lit 341,cd "_law_whole" 671 "_law_whole" 672 673 251 1 336 337 338 339 340 677 251 678) ::
 (nat_lit 342,fn "_law_whole" "_law_whole" (top 51) "law_makes_k06_whole_looked_into" 636 341) ::
 (nat_lit 346,⟨.type "code",.none,.fields #[.str "_law_text" 680,.str "_law_text" 681,.str "/claim/cut.py" 682,.int 257 0,.int 1 0,.int 0 0,.int 0 0,.int 3 0,.ref 343,.bool Bool.true,.int 181 0,.ref 344,.none,.none,.none,.ref 345,.int 683 0,.int 257 0,.str "/claim/cut.py" 684], #[]⟩) ::
 (nat_lit 347,fn "_law_text" "_law_text" (top 52) "law_makes_k06_whole_looked_into" 636 346) ::
 (nat_lit 351,⟨.type "code",.none,.fields #[.str "_law_item" 686,.str "_law_item" 687,.str "/claim/cut.py" 688,.int 266 0,.int 2 0,.int 0 0,.int 0 0,.int 3 0,.ref 348,.bool Bool.true,.int 181 0,.ref 349,.none,.none,.none,.ref 350,.int 689 0,.int 266 0,.str "/claim/cut.py" 690], #[]⟩) ::
 (nat_lit 352,fn "_law_item" "_law_item" (top 53) "law_makes_k06_whole_looked_into" 636 351) ::
 (nat_lit 358,cd "_law_wrapped" 692 "_law_wrapped" 693 694 283 3 353 354 355 356 357 699 283 700) ::
 (nat_lit 359,fn "_law_wrapped" "_law_wrapped" (top 54) "law_makes_k06_whole_looked_into" 636 358) ::
 (nat_lit 363,⟨.type "code",.none,.fields #[.str "_law_parts" 702,.str "_law_parts" 703,.str "/claim/cut.py" 704,.int 294 0,.int 1 0,.int 0 0,.int 0 0,.int 3 0,.ref 360,.bool Bool.true,.int 181 0,.ref 361,.none,.none,.none,.ref 362,.int 705 0,.int 294 0,.str "/claim/cut.py" 706], #[]⟩) ::
 (nat_lit 364,fn "_law_parts" "_law_parts" (top 55) "law_makes_k06_whole_looked_into" 636 363) ::
 (nat_lit 370,cd "_law_long" 708 "_law_long" 709 710 302 1 365 366 367 368 369 713 302 714) ::
 (nat_lit 371,fn "_law_long" "_law_long" (top 56) "law_makes_k06_whole_looked_into" 636 370) ::
 (nat_lit 375,⟨.type "code",.none,.fields #[.str "_law_key" 716,.str "_law_key" 717,.str "/claim/cut.py" 718,.int 309 0,.int 1 0,.int 0 0,.int 0 0,.int 3 0,.ref 372,.bool Bool.true,.int 181 0,.ref 373,.none,.none,.none,.ref 374,.int 719 0,.int 309 0,.str "/claim/cut.py" 720], #[]⟩) ::
 (nat_lit 376,fn "_law_key" "_law_key" (top 57) "law_makes_k06_whole_looked_into" 636 375) ::
 (nat_lit 382,cd "_law_packed" 722 "_law_packed" 723 724 313 1 377 378 379 380 381 728 313 729) ::
 (nat_lit 383,fn "_law_packed" "_law_packed" (top 58) "law_makes_k06_whole_looked_into" 636 382) ::
 (nat_lit 387,⟨.type "code",.none,.fields #[.str "_law_steps" 731,.str "_law_steps" 732,.str "/claim/cut.py" 733,.int 327 0,.int 1 0,.int 0 0,.int 0 0,.int 3 0,.ref 384,.bool Bool.true,.int 181 0,.ref 385,.none,.none,.none,.ref 386,.int 734 0,.int 327 0,.str "/claim/cut.py" 735], #[]⟩) ::
 (nat_lit 388,fn "_law_steps" "_law_steps" (top 59) "law_makes_k06_whole_looked_into" 636 387) ::
 (nat_lit 392,⟨.type "code",.none,.fields #[.str "_law_rest" 737,.str "_law_rest" 738,.str "/claim/cut.py" 739,.int 337 0,.int 1 0,.int 0 0,.int 0 0,.int 3 0,.ref 389,.bool Bool.true,.int 181 0,.ref 390,.none,.none,.none,.ref 391,.int 740 0,.int 337 0,.str "/claim/cut.py" 741], #[]⟩) ::
 (nat_lit 393,fn "_law_rest" "_law_rest" (top 60) "law_makes_k06_whole_looked_into" 636 392) ::
 (nat_lit 399,cd "_law_spans" 743 "_law_spans" 744 745 340 3 394 395 396 397 398 755 340 756) ::
 (nat_lit 400,fn "_law_spans" "_law_spans" (top 61) "law_makes_k06_whole_looked_into" 636 399) ::
 (nat_lit 406,cd "law" 758 "law" 759 760 351 1 401 402 403 404 405 774 351 775) ::
 (nat_lit 407,fn "law" "law" (top 62) "law_makes_k06_whole_looked_into" 636 406) ::
 []
def asK:List Addr:=[3,71,72,78,79,85,86,87,88,94,95,101,102,108,109,113,114,120,121,127,128,134,135,148,149,155,156,162,163,169,170,176,177,183,184,186,187,197,198,204,205,211,212,218,219,225,226,232,233,239,240,246,247,248,254,255,261,262,268,269,273,274,280,281,287,288,294,295,301,302,308,309,315,316,322,323,327,328,334,335,341,342,346,347,351,352,358,359,363,364,370,371,375,376,382,383,387,388,392,393,399,400,406,407]
theorem asK_eq (P:Params):asK = (heapK P).map (·.1):=by kernel_rfl
noncomputable abbrev hookK:W.Hook:=W.kHook heapK asK asK_eq
abbrev xtK (s:Shared):Bool:=W.xlAt viewK [] s && W.recOk (W.RowW.records PySem.Challenge.rw_makes_k06_whole_looked_into.row.toRowW) s
abbrev LeftAt (w:World):Prop:=(W.openEnds treeTable PySem.Challenge.pw_makes_k06_whole_looked_into w 5408).map (fun s => (W.openSeen viewK looseK (importedModules PySem.Challenge.pw_makes_k06_whole_looked_into.main.body) xtK true s,hookK.obs s)) = some (W.openGood viewK looseK,hookK.val w)
abbrev seenK (s:Shared):=W.openSeen viewK looseK (importedModules PySem.Challenge.pw_makes_k06_whole_looked_into.main.body) xtK true s
abbrev wK (w:World) (b:Bool):World:=w.withFollow "special-get-raises" b
theorem chkF (w:World) (os:OsState):((L2.goT PySem.Challenge.pw_makes_k06_whole_looked_into 5408 (wK w false) os).map fun s => L2.chkT PySem.Challenge.pw_makes_k06_whole_looked_into (wK w false) s.abs) = some true:=by kernel_rfl
theorem chkR (w:World) (os:OsState):((L2.goT PySem.Challenge.pw_makes_k06_whole_looked_into 5408 (wK w true) os).map fun s => L2.chkT PySem.Challenge.pw_makes_k06_whole_looked_into (wK w true) s.abs) = some true:=by kernel_rfl
theorem seenF (w:World) (os:OsState):((L2.goT PySem.Challenge.pw_makes_k06_whole_looked_into 5408 (wK w false) os).map fun s => seenK s.abs) = some (W.openGood viewK looseK):=by kernel_rfl
theorem seenT (w:World) (os:OsState):((L2.goT PySem.Challenge.pw_makes_k06_whole_looked_into 5408 (wK w true) os).map fun s => seenK s.abs) = some (W.openGood viewK looseK):=by kernel_rfl
theorem obsF (w:World) (os:OsState):((L2.goT PySem.Challenge.pw_makes_k06_whole_looked_into 5408 (wK w false) os).map fun s => hookK.obs s.abs) = some (hookK.val (wK w false)):=by kernel_rfl
theorem obsT (w:World) (os:OsState):((L2.goT PySem.Challenge.pw_makes_k06_whole_looked_into 5408 (wK w true) os).map fun s => hookK.obs s.abs) = some (hookK.val (wK w true)):=by kernel_rfl
theorem left_of (w:World) (h1:∀ os,((L2.goT PySem.Challenge.pw_makes_k06_whole_looked_into 5408 w os).map fun s => L2.chkT PySem.Challenge.pw_makes_k06_whole_looked_into w s.abs) = some true) (h2:∀ os,((L2.goT PySem.Challenge.pw_makes_k06_whole_looked_into 5408 w os).map fun s => seenK s.abs) = some (W.openGood viewK looseK)) (h3:∀ os,((L2.goT PySem.Challenge.pw_makes_k06_whole_looked_into 5408 w os).map fun s => hookK.obs s.abs) = some (hookK.val w)):LeftAt w:=by
 obtain ⟨⟨hp,g,d,k,os⟩,hs,hv⟩:=Option.map_eq_some_iff.mp (W.boot_open (p:=PySem.Challenge.pw_makes_k06_whole_looked_into) (N:=5408) rfl (by decide) (fun s => rfl) w)
 simp only [Prod.mk.injEq] at hv
 obtain ⟨rfl,rfl,rfl,rfl⟩:=hv
 show Option.map _ (Option.bind (W.fencedOpening treeTable PySem.Challenge.pw_makes_k06_whole_looked_into w 5408) (W.topFrom treeTable PySem.Challenge.pw_makes_k06_whole_looked_into w 5408)) = _
 rw [hs]
 exact L2.top_of (h1 os) (h2 os) (h3 os)
theorem leftF (w:World):LeftAt (w.withFollow "special-get-raises" false):=left_of _ (chkF w) (seenF w) (obsF w)
theorem leftT (w:World):LeftAt (w.withFollow "special-get-raises" true):=left_of _ (chkR w) (seenT w) (obsT w)
theorem leftK:W.LeftO PySem.Challenge.pw_makes_k06_whole_looked_into viewK looseK xtK hookK.obs hookK.val 5408:=W.byRow2 "special-get-raises" leftF leftT
end K06
namespace L2
open PySem PySem.Spec PyProof.Rows
abbrev Key:=Sum Int Str
def keyIs:Key→Value→Bool
 | .inl k,v => Value.isInt k v
 | .inr x,v => Value.isStrOf x v
def keyH (w:World):Key→Int
 | .inl k => hashInt k
 | .inr x => hashStr w x
theorem Yl:∀ {k:Key} {v:Value},keyIs k v = true→(∃ i t,k = Sum.inl i∧v = Value.int i t) ∨ (∃ x t,k = Sum.inr x∧v = Value.str x t)
 | .inl i,v,h => by
  obtain ⟨t,e⟩:=Value.isInt_shape (k:=i) (v:=v) h
  exact .inl ⟨i,t,rfl,e⟩
 | .inr x,v,h => by
  obtain ⟨t,e⟩:=Value.isStrOf_shape (x:=x) (v:=v) h
  exact .inr ⟨x,t,rfl,e⟩
theorem keyIs_int (i:Int) (t:Tok):keyIs (.inl i) (.int i t) = true:=by simp [keyIs,Value.isInt]
theorem keyIs_str (x:Str) (t:Tok):keyIs (.inr x) (.str x t) = true:=by simp [keyIs,Value.isStrOf]
theorem key_ll (a b:Int):decide ((Sum.inl a:Key) = Sum.inl b) = (a == b):=by
 by_cases e:a = b
 ·subst e; simp
 ·have h:¬ (Sum.inl a:Key) = Sum.inl b:=fun q => e (Sum.inl.inj q)
  rw [decide_eq_false h]
  exact (beq_eq_false_iff_ne.mpr e).symm
theorem key_rr (a b:Str):decide ((Sum.inr a:Key) = Sum.inr b) = decide (a = b):=by
 by_cases e:a = b
 ·subst e; simp
 ·have h:¬ (Sum.inr a:Key) = Sum.inr b:=fun q => e (Sum.inr.inj q)
  rw [decide_eq_false h,decide_eq_false e]
theorem key_lr (a:Int) (b:Str):decide ((Sum.inl a:Key) = Sum.inr b) = false:=decide_eq_false (fun q => nomatch q)
theorem key_rl (a:Str) (b:Int):decide ((Sum.inr a:Key) = Sum.inl b) = false:=decide_eq_false (fun q => nomatch q)
def mixKind (prog:Program) (w:World):PySem.KeyKind prog w Key where
 is:=keyIs
 hash:=keyH w
 inj:=fun v a b ha hb => by
  rcases Yl ha with ⟨i,t,rfl,rfl⟩ | ⟨x,t,rfl,rfl⟩
  ·rcases Yl hb with ⟨j,u,rfl,e⟩ | ⟨y,u,rfl,e⟩
   ·injection e with e1 _; rw [e1]
   ·exact nomatch e
  ·rcases Yl hb with ⟨j,u,rfl,e⟩ | ⟨y,u,rfl,e⟩
   ·exact nomatch e
   ·injection e with e1 _; rw [e1]
 byValue:=fun k v h => by
  rcases Yl h with ⟨i,t,rfl,rfl⟩ | ⟨x,t,rfl,rfl⟩ <;> rfl
 pyHash:=fun hv h => by
  rcases Yl hv with ⟨i,t,rfl,rfl⟩ | ⟨x,t,rfl,rfl⟩
  ·exact wpAny_pyHash_int h
  ·exact wpAny_pyHash_str h
 eqBool:=fun hu hv h => by
  rcases Yl hu with ⟨i,t,rfl,rfl⟩ | ⟨x,t,rfl,rfl⟩
  ·rcases Yl hv with ⟨j,u,rfl,rfl⟩ | ⟨y,u,rfl,rfl⟩
   ·rw [key_ll] at h; exact wpAny_eqBool_int h
   ·rw [key_lr] at h; exact SeqAt.EqAt.int_str i t y u _ _ _ _ h
  ·rcases Yl hv with ⟨j,u,rfl,rfl⟩ | ⟨y,u,rfl,rfl⟩
   ·rw [key_rl] at h; exact SeqAt.EqAt.str_int x t j u _ _ _ _ h
   ·rw [key_rr] at h; exact wpAny_eqBool_str h
 «strs»:=fun k x t v h => by
  rcases Yl h with ⟨i,u,rfl,e⟩ | ⟨y,u,rfl,e⟩
  ·exact nomatch e
  ·injection e with e1 _
   subst e1
   cases v <;> rfl
inductive V where
 | non | bl (b:Bool) | int (i:Int) | str (x:Str) | byt (b:Array UInt8) | flt (b:UInt64) | ref (a:Addr) | ty (n:String)
 deriving DecidableEq
def Z6:V→Value→Prop
 | .non,u => u = Value.none
 | .bl b,u => u = Value.bool b
 | .int i,u => ∃ t,u = Value.int i t
 | .str x,u => ∃ t,u = Value.str x t
 | .byt b,u => ∃ t,u = Value.bytes b t
 | .flt b,u => ∃ t,u = Value.float b t
 | .ref a,u => u = Value.ref a
 | .ty n,u => u = Value.type n
abbrev Z2:List V→List Value→Prop:=Paired Z6
theorem Z2.length {xs:List V} {us:List Value} (r:Z2 xs us):xs.length = us.length:=Paired.length r
theorem Z2.get:∀ {xs:List V} {us:List Value} {i:Nat} {x:V},Z2 xs us→xs[i]? = some x→∃ u,us[i]? = some u∧Z6 x u
 | _,_,_,_,.nil,e => by simp at e
 | _,_,0,_,.cons r _,e => by simp at e; subst e; exact ⟨_,rfl,r⟩
 | _,_,i + 1,x,.cons _ t,e => by
  obtain ⟨u,h1,h2⟩:=Z2.get (i:=i) (x:=x) t (by simpa using e)
  exact ⟨u,by simpa using h1,h2⟩
theorem Z2.set {x:V} {u:Value} (r:Z6 x u):∀ {xs:List V} {us:List Value} (i:Nat),Z2 xs us→Z2 (xs.set i x) (us.set i u)
 | _,_,_,.nil => .nil
 | _,_,0,.cons _ t => .cons r t
 | _,_,i + 1,.cons q t => .cons q (Z2.set r i t)
theorem Z2.append:∀ {xs ys:List V} {us ws:List Value},Z2 xs us→Z2 ys ws→Z2 (xs ++ ys) (us ++ ws)
 | _,_,_,_,.nil,s => s
 | _,_,_,_,.cons r t,s => .cons r (Z2.append t s)
theorem Z2.take:∀ {xs:List V} {us:List Value} (n:Nat),Z2 xs us→Z2 (xs.take n) (us.take n)
 | _,_,0,_ => .nil
 | _,_,_ + 1,.nil => .nil
 | _,_,n + 1,.cons r t => .cons r (Z2.take n t)
theorem Z2.drop:∀ {xs:List V} {us:List Value} (n:Nat),Z2 xs us→Z2 (xs.drop n) (us.drop n)
 | _,_,0,r => r
 | _,_,_ + 1,.nil => .nil
 | _,_,n + 1,.cons _ t => Z2.drop n t
def RelO:Option V→Option Value→Prop
 | some v,some u => Z6 v u
 | none,none => True
 | _,_ => False
def KV {κ:Type}:List (κ × V)→List (κ × Value)→Prop:=Paired fun (p:κ × V) (q:κ × Value) => p.1 = q.1∧Z6 p.2 q.2
def kV:Key→V
 | .inl i => .int i
 | .inr x => .str x
inductive HO where
 | lst (xs:List V)
 | tup (xs:List V)
 | dK (kvs:List (Key × V)) | dT (kvs:List (List Key × V))
 | set (S:Int→Bool) (n:Nat)
 | ins (C dx:Addr) (fs:List (Str × V))
 | own (x:Addr)
 | xd (fs:List (Str × V))
 | met (f x:Addr)
 | rng (lo hi:Int)
 | frz (o:Obj) (u:HO)
 | tbl (ps:Array Value)
 | ext (φ:Heap→Prop)
abbrev Hp:=Addr→Option HO
def Z4 (H:Hp) (a:Addr) (o:HO):Hp:=fun b => if b = a then some o else H b
theorem Zq {H:Hp} {a:Addr} {o:HO}:Z4 H a o a = some o:=by unfold Z4; rw [if_pos rfl]
theorem Zh {H:Hp} {a b:Addr} {o:HO} (h:b ≠ a):Z4 H a o b = H b:=by unfold Z4; rw [if_neg h]
theorem upd_upd {H:Hp} {a:Addr} {o u:HO}:Z4 (Z4 H a o) a u = Z4 H a u:=by
 funext b; unfold Z4; split <;> rfl
theorem Zl {H:Hp} {a b:Addr} {o:HO} (h:H a = some o) (h':H b = none):a ≠ b:=by
 intro e; subst e; rw [h] at h'; cases h'
section
variable (P:Program) (w:World)
def Vm (H:Hp) (h:Heap) (a:Addr):HO→Prop
 | .lst xs => xs.length ≤ sizeLine∧∃ (its:List Value) (n:Nat),Z2 xs its∧h.get? a = some { cls:=.type "list",data:=.seq its.toArray n }
 | .tup xs => xs.length ≤ sizeLine∧∃ its:List Value,Z2 xs its∧IsTup h a its.toArray
 | .dK kvs => kvs.length ≤ sizeLine∧(a == sysModules) = false∧∃ vs,KV kvs vs∧h.DictOf (mixKind P w) a vs
 | .dT kvs => kvs.length ≤ sizeLine∧(a == sysModules) = false∧∃ xs:List (List Key × Addr × Value),
   Paired (fun (p:List Key × V) (q:List Key × Addr × Value) => p.1 = q.1∧H q.2.1 = some (.tup (p.1.map kV))∧Z6 p.2 q.2.2) kvs xs ∧
   ∃ o es ep,h.get? a = some o∧o.ExactDict∧o.data = .dict es ep∧es.toList = xs.map (entryOfKey (tupleKind (mixKind P w)))∧(xs.map (·.1)).Nodup
 | .set S n => h.SetOf (intKind P w) a S n
 | .ins C dx fs => H dx = some (.own a)∧fs.length ≤ 1000∧dx ≠ a∧h.get? a = some (W.instObj C dx) ∧
   ∃ mA,h.Ns1 dx mA∧(∀ f,RelO (fs.lookup f) (mA f))∧PySem.Within mA (fs.map (·.1))
 | .own _ => ∃ o,h.get? a = some o
 | .xd fs => ∃ mA,h.Ns1 a mA∧∀ f,RelO (fs.lookup f) (mA f)
 | .rng lo hi => ∃ t u v,h.get? a = some { cls:=.type "range",data:=.fields #[.int lo t,.int hi u,.int 1 v] }
 | .frz o u => h.get? a = some o∧Vm H h a u
 | .tbl ps => h.get? a = some { cls:=.none,data:=.fields ps }
 | .met f x => h.get? a = some (W.methodObj (.ref f) (.ref x))
 | .ext φ => φ h∧(∃ o,h.get? a = some o)∧∀ h1 h2:Heap,φ h1→(∀ o,h1.get? a = some o→h2.get? a = some o)→φ h2
def HOk (H:Hp) (h:Heap):Prop:=∀ a o,H a = some o→Vm P w H h a o
end
section
variable {P:Program} {w:World} {H H':Hp} {h h':Heap} {a:Addr} {o:HO}
theorem Vm.lt (x:Vm P w H h a o):a < h.objs.size:=by
 cases o with
 | lst xs => obtain ⟨_,_,_,_,e⟩:=x; exact Heap.lt_size e
 | tup xs => obtain ⟨_,_,_,p⟩:=x; exact p.lt
 | dK kvs => obtain ⟨_,_,_,_,o,_,_,e,_⟩:=x; exact Heap.lt_size e
 | dT kvs => obtain ⟨_,_,_,_,o,_,_,e,_⟩:=x; exact Heap.lt_size e
 | set S n => obtain ⟨o,_,_,_,e,_⟩:=x; exact Heap.lt_size e
 | ins C dx fs => obtain ⟨_,_,_,e,_⟩:=x; exact Heap.lt_size e
 | own y => obtain ⟨_,e⟩:=x; exact Heap.lt_size e
 | xd fs => obtain ⟨_,⟨_,_,_,e,_⟩,_⟩:=x; exact Heap.lt_size e
 | rng lo hi => obtain ⟨_,_,_,e⟩:=x; exact Heap.lt_size e
 | frz ob u => obtain ⟨e,_⟩:=x; exact Heap.lt_size e
 | tbl ps => exact Heap.lt_size (show h.get? a = some _ from x)
 | met f y => exact Heap.lt_size (show h.get? a = some _ from x)
 | ext φ => obtain ⟨_,⟨_,e⟩,_⟩:=x; exact Heap.lt_size e
theorem Paired.mapP {α β:Type} {F G:α→β→Prop}:∀ {l₁:List α} {l₂:List β},Paired F l₁ l₂→(∀ a b,F a b→G a b)→Paired G l₁ l₂
 | _,_,.nil,_ => .nil
 | _,_,.cons r t,f => .cons (f _ _ r) (Paired.mapP t f)
theorem Vm.stay (x:Vm P w H h a o) (k:∀ b u,(b = a ∨ H b = some (.own a))→h.get? b = some u→h'.get? b = some u)
  (ho:∀ b,H b = some (.own a)→H' b = some (.own a)) (ht:∀ b xs,H b = some (.tup xs)→H' b = some (.tup xs)):Vm P w H' h' a o:=by
 induction o with
 | lst xs => obtain ⟨z,its,n,r,e⟩:=x; exact ⟨z,its,n,r,k _ _ (.inl rfl) e⟩
 | tup xs => obtain ⟨z,its,r,ob,e,c⟩:=x; exact ⟨z,its,r,ob,k _ _ (.inl rfl) e,c⟩
 | dK kvs => obtain ⟨z,y,vs,r,ob,es,ep,e,c⟩:=x; exact ⟨z,y,vs,r,ob,es,ep,k _ _ (.inl rfl) e,c⟩
 | dT kvs =>
  obtain ⟨z,y,xs,r,ob,es,ep,e,c⟩:=x
  exact ⟨z,y,xs,Paired.mapP r fun p q z => ⟨z.1,ht _ _ z.2.1,z.2.2⟩,ob,es,ep,k _ _ (.inl rfl) e,c⟩
 | set S n => obtain ⟨ob,es,ep,t,e,c⟩:=x; exact ⟨ob,es,ep,t,k _ _ (.inl rfl) e,c⟩
 | ins C dx fs =>
  obtain ⟨d,z,ne,e,mA,⟨od,es,ep,e2,c⟩,r⟩:=x
  exact ⟨ho _ d,z,ne,k _ _ (.inl rfl) e,mA,⟨od,es,ep,k _ _ (.inr d) e2,c⟩,r⟩
 | own y => obtain ⟨ob,e⟩:=x; exact ⟨ob,k _ _ (.inl rfl) e⟩
 | xd fs => obtain ⟨mA,⟨od,es,ep,e,c⟩,r⟩:=x; exact ⟨mA,⟨od,es,ep,k _ _ (.inl rfl) e,c⟩,r⟩
 | rng lo hi => obtain ⟨t,u,v,e⟩:=x; exact ⟨t,u,v,k _ _ (.inl rfl) e⟩
 | frz ob u ih => obtain ⟨e,q⟩:=x; exact ⟨k _ _ (.inl rfl) e,ih q⟩
 | tbl ps =>
  have e:h.get? a = some { cls:=.none,data:=.fields ps }:=x
  show h'.get? a = some { cls:=.none,data:=.fields ps }
  exact k a _ (.inl rfl) e
 | met f y =>
  have e:h.get? a = some (W.methodObj (.ref f) (.ref y)):=x
  show h'.get? a = some (W.methodObj (.ref f) (.ref y))
  exact k a _ (.inl rfl) e
 | ext φ => obtain ⟨p,⟨o,e⟩,st⟩:=x; exact ⟨st _ _ p fun o q => k _ _ (.inl rfl) q,⟨o,k _ _ (.inl rfl) e⟩,st⟩
theorem HOk.lt (x:HOk P w H h) (e:H a = some o):a < h.objs.size:=(x a o e).lt
theorem HOk.fresh (x:HOk P w H h) (e:h.objs.size ≤ a):H a = none:=by
 cases q:H a with
 | none => rfl
 | some u => exact absurd (Nat.lt_of_lt_of_le (x.lt q) e) (Nat.lt_irrefl _)
theorem HOk.kept (x:HOk P w H h) (k:∀ b u,h.get? b = some u→h'.get? b = some u):HOk P w H h':=fun a o e =>
 (x a o e).stay (fun b u _ q => k b u q) (fun _ q => q) fun _ _ q => q
theorem HOk.laid (x:HOk P w H h) (k:∀ b u,h.get? b = some u→h'.get? b = some u) (hp:h.objs.size ≤ a) (new:Vm P w (Z4 H a o) h' a o):HOk P w (Z4 H a o) h':=fun b u e => by
 have hn:=x.fresh hp
 by_cases hb:b = a
 ·subst hb; rw [Zq] at e; cases e; exact new
 ·rw [Zh hb] at e
  exact (x b u e).stay (fun c v _ q => k c v q) (fun c q => by rw [Zh (Zl q hn)]; exact q) fun c xs q => by rw [Zh (Zl q hn)]; exact q
end
def Rd (H:Hp) (a:Addr) (u:HO):Prop:=H a = some u ∨ ∃ o,H a = some (.frz o u)
theorem Rd.of {H:Hp} {a:Addr} {u:HO} (h:H a = some u):Rd H a u:=.inl h
theorem Rd.ok {P:Program} {w:World} {H:Hp} {h:Heap} {a:Addr} {u:HO} (r:Rd H a u) (x:HOk P w H h):Vm P w H h a u:=by
 rcases r with r | ⟨o,r⟩
 ·exact x a u r
 ·obtain ⟨_,q⟩:=x a _ r
  exact q
def Mut:Option HO→Prop
 | some (.lst _) => True
 | some (.dK _) => True
 | some (.dT _) => True
 | some (.set _ _) => True
 | some (.ins _ _ _) => True
 | some (.ext _) => True
 | _ => False
section
variable {P:Program} {w:World} {H:Hp} {h h':Heap} {x e:Addr} {o':HO}
theorem HOk.write (ok:HOk P w H h) (mu:Mut (H x)) (he:e = x ∨ H e = some (.own x)) (k:∀ b u,b ≠ e→h.get? b = some u→h'.get? b = some u) (heo:∃ u,h'.get? e = some u)
  (new:Vm P w (Z4 H x o') h' x o'):HOk P w (Z4 H x o') h':=fun b u q => by
 have nown:∀ c y,H c = some (.own y)→c ≠ x:=fun c y r z => by subst z; rw [r] at mu; exact mu
 have ntup:∀ c xs,H c = some (.tup xs)→c ≠ x:=fun c xs r z => by subst z; rw [r] at mu; exact mu
 by_cases hb:b = x
 ·subst hb; rw [Zq] at q; cases q; exact new
 ·rw [Zh hb] at q
  by_cases hbe:b = e
  ·have q':H b = some (.own x):=by
    rcases he with z | z
    ·exact absurd (hbe.trans z) hb
    ·rw [hbe]; exact z
   rw [q] at q'; cases q'
   obtain ⟨v,hv⟩:=heo
   exact ⟨v,by rw [hbe]; exact hv⟩
  ·refine (ok b u q).stay (fun c v hc r => k c v ?_ r) (fun c r => by rw [Zh (nown c b r)]; exact r) fun c xs r => by rw [Zh (ntup c xs r)]; exact r
   rcases hc with rfl | hc
   ·exact hbe
   ·rintro rfl
    rcases he with z | z
    ·exact nown c b hc z
    ·rw [hc] at z; cases z; exact hb rfl
end
structure Un (fs ex:List Addr) (H H':Hp) (h h':Heap):Prop where
 keep:∀ b o,h.get? b = some o→H b = none→b ∉ fs→b ∉ ex→h'.get? b = some o
 slot:∀ b o,h.get? b = some o→H b = none→b ∈ fs→b ∉ ex→∃ sl,h'.get? b = some { o with slots:=sl }
 free:∀ b o,h.get? b = some o→H b = none→b ∉ ex→H' b = none
 there:∀ b o,h.get? b = some o→b ∉ ex→∃ o',h'.get? b = some o'
 tups:∀ b xs,H b = some (.tup xs)→H' b = some (.tup xs)
 frzs:∀ b o u,H b = some (.frz o u)→H' b = some (.frz o u)
 tbls:∀ b ps,H b = some (.tbl ps)→∃ more,H' b = some (.tbl (ps ++ more))
section
variable {fs fs' ex ex':List Addr} {H H1 H2:Hp} {h h1 h2 h':Heap} {a x e:Addr} {o:HO}
theorem Un.any (u:Un fs ex H H1 h h1) {b:Addr} {ob:Obj} (q:h.get? b = some ob) (n:H b = none) (hx:b ∉ ex):∃ sl,h1.get? b = some { ob with slots:=sl }:=by
 by_cases hb:b ∈ fs
 ·exact u.slot b ob q n hb hx
 ·exact ⟨ob.slots,u.keep b ob q n hb hx⟩
theorem Un.trans (a:Un fs ex H H1 h h1) (b:Un fs ex H1 H2 h1 h2):Un fs ex H H2 h h2 where
 keep:=fun c ob q n hc hx => b.keep c ob (a.keep c ob q n hc hx) (a.free c ob q n hx) hc hx
 slot:=fun c ob q n hc hx => by
  obtain ⟨sl,e1⟩:=a.slot c ob q n hc hx
  obtain ⟨sl',e2⟩:=b.slot c _ e1 (a.free c ob q n hx) hc hx
  exact ⟨sl',e2⟩
 free:=fun c ob q n hx => by
  obtain ⟨o',e1⟩:=a.there c ob q hx
  exact b.free c o' e1 (a.free c ob q n hx) hx
 there:=fun c ob q hx => by
  obtain ⟨o',e1⟩:=a.there c ob q hx
  exact b.there c o' e1 hx
 tups:=fun c xs q => b.tups c xs (a.tups c xs q)
 frzs:=fun c ob xs q => b.frzs c ob xs (a.frzs c ob xs q)
 tbls:=fun c ps q => by
  obtain ⟨m1,e1⟩:=a.tbls c ps q
  obtain ⟨m2,e2⟩:=b.tbls c _ e1
  exact ⟨m1 ++ m2,by rw [e2,Array.append_assoc]⟩
theorem Un.kept (k:∀ b u,h.get? b = some u→h'.get? b = some u):Un fs ex H H h h' :=
 ⟨fun b ob q _ _ _ => k b ob q,fun b ob q _ _ _ => ⟨ob.slots,k b ob q⟩,fun _ _ _ n _ => n,fun b ob q _ => ⟨ob,k b ob q⟩,fun _ _ q => q,fun _ _ _ q => q,fun _ ps q => ⟨#[],by rw [q]; simp⟩⟩
theorem Un.refl:Un fs ex H H h h:=Un.kept fun _ _ q => q
theorem Un.laid (k:∀ b u,h.get? b = some u→h'.get? b = some u) (hp:h.objs.size ≤ a) (hn:H a = none):Un fs ex H (Z4 H a o) h h' where
 keep:=fun b u q _ _ _ => k b u q
 slot:=fun b u q _ _ _ => ⟨u.slots,k b u q⟩
 free:=fun b u q n _ => by rw [Zh (Nat.ne_of_lt (Nat.lt_of_lt_of_le (Heap.lt_size q) hp))]; exact n
 there:=fun b u q _ => ⟨u,k b u q⟩
 tups:=fun b xs q => by rw [Zh (Zl q hn)]; exact q
 frzs:=fun b u xs q => by rw [Zh (Zl q hn)]; exact q
 tbls:=fun b ps q => ⟨#[],by rw [Zh (Zl q hn),q]; simp⟩
theorem Un.write (mu:Mut (H x)) (he:e = x ∨ H e = some (.own x)) (k:∀ b u,b ≠ e→h.get? b = some u→h'.get? b = some u) (heo:∃ u,h'.get? e = some u):Un fs ex H (Z4 H x o) h h':=by
 have hx:∀ b,H b = none→b ≠ x:=fun b n z => by subst z; rw [n] at mu; exact mu
 have hb:∀ b,H b = none→b ≠ e:=fun b n z => by
  subst z
  rcases he with r | r
  ·exact hx b n r
  ·rw [n] at r; cases r
 have hm:∀ b u,H b = some u→¬ Mut (some u)→b ≠ x:=fun b u q nm z => by subst z; rw [q] at mu; exact nm mu
 refine ⟨fun b u q n _ _ => k b u (hb b n) q,fun b u q n _ _ => ⟨u.slots,k b u (hb b n) q⟩,fun b u q n _ => by rw [Zh (hx b n)]; exact n,fun b u q _ => ?_,
  fun b xs q => by rw [Zh (hm b _ q fun z => z)]; exact q,fun b u xs q => by rw [Zh (hm b _ q fun z => z)]; exact q,fun b ps q => ⟨#[],by rw [Zh (hm b _ q fun z => z),q]; simp⟩⟩
 by_cases hbe:b = e
 ·subst hbe; exact heo
 ·exact ⟨u,k b u hbe q⟩
theorem Un.mono (u:Un fs ex H H1 h h1) (hs:∀ b ∈ fs,b ∈ fs') (hx:∀ b ∈ ex,b ∈ ex'):Un fs' ex' H H1 h h1 :=
 ⟨fun b ob q n hb he => u.keep b ob q n (fun z => hb (hs b z)) fun z => he (hx b z),fun _ _ q n _ he => u.any q n fun z => he (hx _ z),fun b ob q n he => u.free b ob q n fun z => he (hx b z),fun b ob q he => u.there b ob q fun z => he (hx b z),u.tups,u.frzs,u.tbls⟩
end
def trk (h:Heap) (H:Hp):List Addr:=(List.range h.objs.size).filter fun a => (H a).isSome
def hidT (h:Heap) (H:Hp):Heap:=W.hideAll h (trk h H)
theorem hidT_size (h:Heap) (H:Hp):(hidT h H).objs.size = h.objs.size:=W.hideAll_size _ _
theorem hidT_get {h:Heap} {H:Hp} {b:Addr} {o:Obj} (e:h.get? b = some o) (n:H b = none):(hidT h H).get? b = some o :=
 W.hideAll_get _ e fun hm => by
  have q:(H b).isSome = true:=(List.mem_filter.mp hm).2
  rw [n] at q; simp at q
theorem of_hidT {h:Heap} {H:Hp} {b:Addr} {o:Obj} (e:(hidT h H).get? b = some o):h.get? b = some o∧H b = none:=by
 have e':h.get? b = some o:=W.of_hideAll (trk h H) e
 refine ⟨e', ?_⟩
 cases q:H b with
 | none => rfl
 | some x =>
  have hm:b ∈ trk h H:=List.mem_filter.mpr ⟨List.mem_range.mpr (Heap.lt_size e'),by simp [q]⟩
  have z:(hidT h H).get? b = none:=W.hideAll_none (trk h H) hm
  rw [z] at e; cases e
def allNews (g h:Heap) (L:Addr):List (Addr × Obj):=(List.range h.objs.size).filterMap fun a => if a = L ∨ (g.get? a).isSome = true then none else (h.get? a).map fun o => (a,o)
def Vz (g h:Heap) (L d:Addr):List (Addr × Obj):=(allNews g h L).filter fun p => decide (p.1 ≠ d)
structure Mod (K:W.Frag) (mg:Str→Option Value) (base:Heap):Prop where
 kin:K.In base
 glob:base.Ns mainGlobals mg
 blt:∃ mb,base.Ns builtinsNs mb∧∀ x:Str,x ≠ "__name__" → mb x = bootBuiltins x
 nolimit:base.NoLimit
structure Cx where
 prog:Program
 w:World
 K:W.Frag
 mg:Str→Option Value
 base:Heap
 A:Around
 N:List Str
 s₀:Shared
 H₀:Hp
 env:Env
 outer:List Env
 stack:List Env
 ex:List Addr
 fn:Str→Bool
 calm:Bool
 pn:List (Addr × Obj)
 xe:Value→Shared→Prop
def frs (l:List Env):List Addr:=l.filterMap (·.frame)
abbrev Cx.fs (X:Cx):List Addr:=frs X.outer
def Vis (sc:Scope) (x:Str):Prop:=sc.names.lookup x = some .local ∨ sc.names.lookup x = some .cell ∨ sc.names.lookup x = some .free
def Loc (sc:Scope) (x:Str):Prop:=sc.names.lookup x = some .local ∨ sc.names.lookup x = some .cell
def Look (env:Env) (h:Heap) (m:Str→Option Value) (x:Str) (u:Value):Prop :=
 (env.kindOf x = some .local∧m x = some u) ∨ ((env.kindOf x = some .cell ∨ env.kindOf x = some .free)∧∃ c,env.cells.lookup x = some c∧h.IsCell c (some u))
structure Cx.Ok (X:Cx):Prop where
 mod:Mod X.K X.mg X.base
 kind:X.env.scope.kind = .function
 glob:X.env.globals = mainGlobals
 blt:X.env.builtins = builtinsNs
 above:X.s₀.heap.objs.size ≤ X.env.locals
 inj:∀ x y c,X.env.cells.lookup x = some c→X.env.cells.lookup y = some c→x = y
 has:∀ x,(X.env.kindOf x = some .cell ∨ X.env.kindOf x = some .free)→∃ c,X.env.cells.lookup x = some c
 cab:∀ x c,X.fn x = true→X.env.cells.lookup x = some c→X.s₀.heap.objs.size ≤ c
 hd:X.calm = true→X.A.handled = none
 frames:X.A.frames = some X.stack
 stk:X.stack = X.outer ∨ (X.stack = X.env :: X.outer∧X.env.frame = some X.env.locals)
 exf:∀ b ∈ X.ex,b ≠ X.env.locals∧∀ x c,X.env.cells.lookup x = some c→c ≠ b
 bs:∀ b o,X.base.get? b = some o→X.s₀.heap.get? b = some o∧X.H₀ b = none
 bsz:X.base.objs.size ≤ X.s₀.heap.objs.size
 noex:∀ b o,X.base.get? b = some o→b ∉ X.ex
 exfs:∀ b ∈ X.ex,b ∉ X.fs
 funs:X.s₀.heap.FunFrames X.base X.outer
 frf:∀ b ∈ X.fs,X.H₀ b = none
structure Zo (X:Cx) (pins:List (Addr × Obj)) (σ:List (Option V)) (H:Hp) (s:Shared):Prop where
 ok:X.Ok
 os:s.os = X.s₀.os
 bare:AllBare s.gens
 base:Un X.fs X.ex X.H₀ H X.s₀.heap s.heap
 loc:∃ m,s.heap.Ns X.env.locals m∧∀ (i:Nat) (x:Str) (v:V),X.N[i]? = some x→σ[i]? = some (some v)→Vis X.env.scope x→∃ u,Z6 v u∧Look X.env s.heap m x u
 cell:∀ x c,X.env.cells.lookup x = some c→∃ v,s.heap.IsCell c v
 free:H X.env.locals = none
 freeC:∀ x c,X.env.cells.lookup x = some c→H c = none
 pin:∀ p ∈ X.pn ++ pins,s.heap.get? p.1 = some p.2∧H p.1 = none∧p.1 ≠ X.env.locals∧p.1 ∉ X.fs∧∀ v,p.2.data ≠ .cell v
 hok:HOk X.prog X.w H s.heap
 len:σ.length = X.N.length
section
variable {X:Cx} {pins:List (Addr × Obj)} {σ:List (Option V)} {H H':Hp} {s:Shared} {h':Heap}
theorem Cx.Ok.nofr (ok:X.Ok) {b:Addr} {o:Obj} (e:X.base.get? b = some o):b ∉ X.fs:=fun hb => by
 have:=(ok.funs.mem hb).1
 rw [e] at this; cases this
theorem Zo.bs (I:Zo X pins σ H s):∀ b o,X.base.get? b = some o→s.heap.get? b = some o∧H b = none:=fun b o e =>
 ⟨I.base.keep b o (I.ok.bs b o e).1 (I.ok.bs b o e).2 (I.ok.nofr e) (I.ok.noex b o e),I.base.free b o (I.ok.bs b o e).1 (I.ok.bs b o e).2 (I.ok.noex b o e)⟩
theorem Zo.bk (I:Zo X pins σ H s):∀ b o,X.base.get? b = some o→s.heap.get? b = some o:=fun b o e => (I.bs b o e).1
theorem Zo.mod (I:Zo X pins σ H s):Mod X.K X.mg X.base:=I.ok.mod
theorem Zo.kIn (I:Zo X pins σ H s):X.K.In s.heap:=I.ok.mod.kin.keeps I.bk
theorem Zo.fr (I:Zo X pins σ H s):∃ m,Fr X.base X.env.locals s.heap m :=
 let ⟨m,hn,_⟩:=I.loc
 ⟨m,hn,I.bk,Nat.le_trans I.ok.bsz I.ok.above⟩
theorem Zo.lt (I:Zo X pins σ H s):X.env.locals < s.heap.objs.size:=let ⟨_,hn,_⟩:=I.loc; hn.lt
theorem Zo.sz (I:Zo X pins σ H s):X.s₀.heap.objs.size ≤ s.heap.objs.size:=Nat.le_trans I.ok.above (Nat.le_of_lt I.lt)
theorem Zo.nofs (I:Zo X pins σ H s) {a:Addr} (h:s.heap.objs.size ≤ a):a ∉ X.fs:=fun hb => by
 obtain ⟨_,o,ho,_⟩:=I.ok.funs.mem hb
 exact absurd (Nat.lt_of_lt_of_le (Heap.lt_size ho) (Nat.le_trans I.sz h)) (Nat.lt_irrefl _)
theorem Zo.cne (I:Zo X pins σ H s):∀ x c,X.env.cells.lookup x = some c→c ≠ X.env.locals:=fun x c e z => by
 obtain ⟨v,o,ho,hd⟩:=I.cell x c e
 obtain ⟨m,⟨o',es,ep,ho',hd',_⟩,_⟩:=I.loc
 rw [z,ho'] at ho; cases ho; rw [hd'] at hd; cases hd
theorem Zo.funs (I:Zo X pins σ H s):s.heap.FunFrames X.base X.outer:=by
 have all:∀ (l:List Env),(∀ b ∈ frs l,b ∈ X.fs)→X.s₀.heap.FunFrames X.base l→s.heap.FunFrames X.base l:=by
  intro l
  induction l with
  | nil => intro _ _; trivial
  | cons env r ih =>
   intro hs hl
   obtain ⟨hk,⟨L,o,hf,hn,ho,hd⟩,hr⟩:=hl
   have hL:L ∈ X.fs:=hs L (by unfold frs; rw [List.filterMap_cons,hf]; exact List.mem_cons_self)
   obtain ⟨sl,e⟩:=I.base.slot L o ho (I.ok.frf L hL) hL fun z => I.ok.exfs L z hL
   exact ⟨hk,⟨L,_,hf,hn,e,hd⟩,ih (fun b hb => hs b (by unfold frs; rw [List.filterMap_cons,hf]; exact List.mem_cons_of_mem _ hb)) hr⟩
 exact all X.outer (fun _ hb => hb) I.ok.funs
theorem Zo.stack (I:Zo X pins σ H s):s.heap.FunFrames X.base X.stack:=by
 rcases I.ok.stk with e | ⟨e,hf⟩
 ·rw [e]; exact I.funs
 ·rw [e]
  obtain ⟨m,hn,_⟩:=I.loc
  refine .cons (by rw [I.ok.kind]; decide) hf hn ?_ I.funs
  exact Heap.get?_none_of_le (Nat.le_trans I.ok.bsz I.ok.above)
theorem Zo.stkSub (I:Zo X pins σ H s):∀ b ∈ frs X.stack,b ∈ X.env.locals :: X.fs:=fun b hb => by
 rcases I.ok.stk with e | ⟨e,hf⟩
 ·rw [e] at hb; exact List.mem_cons_of_mem _ hb
 ·rw [e] at hb
  unfold frs at hb
  rw [List.filterMap_cons,hf] at hb
  exact hb
theorem Zo.stkFree (I:Zo X pins σ H s):∀ b ∈ frs X.stack,H b = none:=fun b hb => by
 rcases List.mem_cons.mp (I.stkSub b hb) with e | hb
 ·rw [e]; exact I.free
 ·obtain ⟨_,o,ho,_⟩:=I.ok.funs.mem hb
  exact I.base.free b o ho (I.ok.frf b hb) fun z => I.ok.exfs b z hb
theorem Zo.step {g':Array GenState} {t':Nat} {d':Drawn} {ch:List Addr} (I:Zo X pins σ H s)
  (hch:∀ b ∈ ch,(b ∈ X.ex ∨ X.s₀.heap.objs.size ≤ b)∧b ≠ X.env.locals∧(∀ x c,X.env.cells.lookup x = some c→c ≠ b)∧∀ p ∈ X.pn ++ pins,p.1 ≠ b)
  (keep:∀ b o,b ≠ X.env.locals→b ∉ X.fs→b ∉ ch→s.heap.get? b = some o→H b = none→h'.get? b = some o)
  (slot:∀ b o,b ≠ X.env.locals→b ∈ X.fs→b ∉ ch→s.heap.get? b = some o→H b = none→∃ sl,h'.get? b = some { o with slots:=sl }) (free:∀ b o,b ∉ ch→s.heap.get? b = some o→H b = none→H' b = none)
  (there:∀ b o,b ∉ ch→s.heap.get? b = some o→∃ o',h'.get? b = some o')
  (tups:∀ b xs,H b = some (.tup xs)→H' b = some (.tup xs)) (frzs:∀ b o u,H b = some (.frz o u)→H' b = some (.frz o u)) (tbls:∀ b ps,H b = some (.tbl ps)→∃ more,H' b = some (.tbl (ps ++ more)))
  (ns:∀ m,s.heap.Ns X.env.locals m→h'.Ns X.env.locals m) (hok:HOk X.prog X.w H' h') (hg:AllBare g') :
  Zo X pins σ H' { s with heap:=h',gens:=g',drawn:=d',toks:=t' }:=by
 have neL:∀ b o,X.s₀.heap.get? b = some o→b ≠ X.env.locals:=fun b o e => Nat.ne_of_lt (Nat.lt_of_lt_of_le (Heap.lt_size e) I.ok.above)
 have neC:∀ b o,X.s₀.heap.get? b = some o→b ∉ X.ex→b ∉ ch:=fun b o e hx hb => by
  rcases (hch b hb).1 with z | z
  ·exact hx z
  ·exact absurd (Nat.lt_of_lt_of_le (Heap.lt_size e) z) (Nat.lt_irrefl _)
 have cellK:∀ x c,X.env.cells.lookup x = some c→∀ v,s.heap.IsCell c v→h'.IsCell c v:=fun x c e v ⟨o,ho,hd⟩ => by
  have nch:c ∉ ch:=fun z => (hch c z).2.2.1 x c e rfl
  by_cases hc:c ∈ X.fs
  ·obtain ⟨sl,q⟩:=slot c o (I.cne x c e) hc nch ho (I.freeC x c e)
   exact ⟨_,q,hd⟩
  ·exact ⟨o,keep c o (I.cne x c e) hc nch ho (I.freeC x c e),hd⟩
 refine ⟨I.ok,I.os,hg,⟨fun b o e n hb hx => ?_,fun b o e n hb hx => ?_,fun b o e n hx => ?_,fun b o e hx => ?_,fun b xs e => tups b xs (I.base.tups b xs e),fun b o xs e => frzs b o xs (I.base.frzs b o xs e),fun b ps e => ?_⟩, ?_,fun x c e => ?_, ?_,fun x c e => ?_,fun p hp => ?_,hok,I.len⟩
 ·exact keep b o (neL b o e) hb (neC b o e hx) (I.base.keep b o e n hb hx) (I.base.free b o e n hx)
 ·obtain ⟨sl,e1⟩:=I.base.slot b o e n hb hx
  obtain ⟨sl',e2⟩:=slot b _ (neL b o e) hb (neC b o e hx) e1 (I.base.free b o e n hx)
  exact ⟨sl',e2⟩
 ·obtain ⟨o',e1⟩:=I.base.there b o e hx
  exact free b o' (neC b o e hx) e1 (I.base.free b o e n hx)
 ·obtain ⟨o',e1⟩:=I.base.there b o e hx
  exact there b o' (neC b o e hx) e1
 ·obtain ⟨m1,e1⟩:=I.base.tbls b ps e
  obtain ⟨m2,e2⟩:=tbls b _ e1
  exact ⟨m1 ++ m2,by rw [e2,Array.append_assoc]⟩
 ·obtain ⟨m,hn,hl⟩:=I.loc
  refine ⟨m,ns m hn,fun i x v e1 e2 e3 => ?_⟩
  obtain ⟨u,r,l⟩:=hl i x v e1 e2 e3
  refine ⟨u,r, ?_⟩
  rcases l with l | ⟨k,c,e,z⟩
  ·exact .inl l
  ·exact .inr ⟨k,c,e,cellK x c e _ z⟩
 ·obtain ⟨v,z⟩:=I.cell x c e
  exact ⟨v,cellK x c e v z⟩
 ·obtain ⟨m,⟨o,_,_,ho,_⟩,_⟩:=I.loc
  exact free _ o (fun z => (hch _ z).2.1 rfl) ho I.free
 ·obtain ⟨v,o,ho,hd⟩:=I.cell x c e
  exact free c o (fun z => (hch c z).2.2.1 x c e rfl) ho (I.freeC x c e)
 ·obtain ⟨e,n,ne,nf,d⟩:=I.pin p hp
  have nch:p.1 ∉ ch:=fun z => (hch p.1 z).2.2.2 p hp rfl
  exact ⟨keep p.1 p.2 ne nf nch e n,free p.1 p.2 nch e n,ne,nf,d⟩
theorem Zo.un {t':Nat} (I:Zo X pins σ H s) (u:Un X.fs [] H H' s.heap h') (hok:HOk X.prog X.w H' h'):Zo X pins σ H' { s with heap:=h',toks:=t' }:=by
 obtain ⟨m,⟨o,es,ep,ho,r⟩,_⟩:=id I.loc
 obtain ⟨sl,hL⟩:=u.any ho I.free (by simp)
 exact I.step (g':=s.gens) (d':=s.drawn) (ch:=[]) (fun _ z => nomatch z) (fun b o _ hb _ e n => u.keep b o e n hb (by simp)) (fun b o _ hb _ e n => u.slot b o e n hb (by simp)) (fun b o _ e n => u.free b o e n (by simp)) (fun b o _ e => u.there b o e (by simp)) u.tups u.frzs u.tbls (fun m' hm => by
  obtain ⟨o',es',ep',ho',r'⟩:=hm
  rw [ho] at ho'; cases ho'
  exact ⟨_,es',ep',hL,r'⟩) hok I.bare
theorem Zo.call {g':Array GenState} {t':Nat} {d':Drawn} {ch:List Addr} (I:Zo X pins σ H s) (u:Un (frs X.stack) ch H H' s.heap h') (hok:HOk X.prog X.w H' h') (hg:AllBare g')
  (hch:∀ b ∈ ch,(b ∈ X.ex ∨ X.s₀.heap.objs.size ≤ b)∧b ≠ X.env.locals∧(∀ x c,X.env.cells.lookup x = some c→c ≠ b)∧∀ p ∈ X.pn ++ pins,p.1 ≠ b) :
  Zo X pins σ H' { s with heap:=h',gens:=g',drawn:=d',toks:=t' }:=by
 obtain ⟨m,⟨o,es,ep,ho,r⟩,_⟩:=id I.loc
 obtain ⟨sl,hL⟩:=u.any ho I.free fun z => (hch _ z).2.1 rfl
 exact I.step (ch:=ch) hch (fun b o hL hb hc e n => u.keep b o e n (fun z => (List.mem_cons.mp (I.stkSub b z)).elim hL hb) hc) (fun b o _ _ hc e n => u.any e n hc) (fun b o hc e n => u.free b o e n hc) (fun b o hc e => u.there b o e hc) u.tups u.frzs u.tbls (fun m' hm => by
  obtain ⟨o',es',ep',ho',r'⟩:=hm
  rw [ho] at ho'; cases ho'
  exact ⟨_,es',ep',hL,r'⟩) hok hg
theorem Zo.turned {t':Nat} {it:Addr} (I:Zo X pins σ H s) (k:∀ b o,b ≠ it→s.heap.get? b = some o→h'.get? b = some o) (hn:H it = none) (hL:it ≠ X.env.locals)
  (h1:it ∈ X.ex ∨ X.s₀.heap.objs.size ≤ it) (h2:∀ x c,X.env.cells.lookup x = some c→c ≠ it) (h3:∀ p ∈ X.pn ++ pins,p.1 ≠ it):Zo X pins σ H { s with heap:=h',toks:=t' }:=by
 have nit:∀ b u,H b = some u→b ≠ it:=fun b u e z => by rw [z,hn] at e; cases e
 refine I.step (g':=s.gens) (d':=s.drawn) (ch:=[it]) (fun b hb => ?_) (fun b o _ _ hc e _ => k b o (fun z => hc (by simp [z])) e) (fun b o _ _ hc e _ => ⟨o.slots,k b o (fun z => hc (by simp [z])) e⟩) (fun _ _ _ _ n => n)
  (fun b o hc e => ⟨o,k b o (fun z => hc (by simp [z])) e⟩) (fun _ _ e => e) (fun _ _ _ e => e) (fun b ps e => ⟨#[],by rw [e]; simp⟩) (fun m hm => ?_) (fun b u e => ?_) I.bare
 ·have e:b = it:=by simpa using hb
  subst e
  exact ⟨h1,hL,h2,h3⟩
 ·obtain ⟨o,es,ep,ho,r⟩:=hm
  exact ⟨o,es,ep,k _ o (Ne.symm hL) ho,r⟩
 ·refine (I.hok b u e).stay (fun c v hc q => k c v ?_ q) (fun _ q => q) fun _ _ q => q
  rcases hc with z | z
  ·rw [z]; exact nit b u e
  ·exact nit c _ z
theorem Zo.tok (I:Zo X pins σ H s) (t:Nat):Zo X pins σ H { s with toks:=t }:=I.un (h':=s.heap) (t':=t) Un.refl I.hok
theorem Zo.kept {t':Nat} (I:Zo X pins σ H s) (k:∀ b u,s.heap.get? b = some u→h'.get? b = some u):Zo X pins σ H { s with heap:=h',toks:=t' }:=I.un (Un.kept k) (I.hok.kept k)
theorem Zo.laid {a:Addr} {o:HO} {t':Nat} (I:Zo X pins σ H s) (k:∀ b u,s.heap.get? b = some u→h'.get? b = some u) (hp:s.heap.objs.size ≤ a) (new:Vm X.prog X.w (Z4 H a o) h' a o) :
  Zo X pins σ (Z4 H a o) { s with heap:=h',toks:=t' }:=I.un (Un.laid k hp (I.hok.fresh hp)) (I.hok.laid k hp new)
theorem Zo.write {x e:Addr} {o:HO} {t':Nat} (I:Zo X pins σ H s) (mu:Mut (H x)) (he:e = x ∨ H e = some (.own x)) (k:∀ b u,b ≠ e→s.heap.get? b = some u→h'.get? b = some u) (heo:∃ u,h'.get? e = some u)
  (new:Vm X.prog X.w (Z4 H x o) h' x o):Zo X pins σ (Z4 H x o) { s with heap:=h',toks:=t' }:=I.un (Un.write mu he k heo) (I.hok.write mu he k heo new)
theorem Zo.pins_of {pins':List (Addr × Obj)} (I:Zo X pins σ H s) (h:∀ p ∈ pins',s.heap.get? p.1 = some p.2∧H p.1 = none∧p.1 ≠ X.env.locals∧p.1 ∉ X.fs∧∀ v,p.2.data ≠ .cell v):Zo X pins' σ H s :=
 ⟨I.ok,I.os,I.bare,I.base,I.loc,I.cell,I.free,I.freeC,fun p hp => (List.mem_append.mp hp).elim (fun z => I.pin p (List.mem_append_left _ z)) (h p),I.hok,I.len⟩
theorem nodup_ix {N:List Str} (hN:N.Nodup) {i j:Nat} {x:Str} (a:N[i]? = some x) (b:N[j]? = some x):i = j:=by
 obtain ⟨h1,e1⟩:=List.getElem?_eq_some_iff.mp a
 obtain ⟨h2,e2⟩:=List.getElem?_eq_some_iff.mp b
 exact (List.getElem_inj hN).mp (e1.trans e2.symm)
theorem store_ok2 {M:Model} {A:Around} {E:Value→Shared→Prop} {i:Nat} {x:Str} {v:V} {u:Value} {Q:Unit→Shared→Prop} (I:Zo X pins σ H s) (hN:X.N.Nodup) (hi:X.N[i]? = some x) (hx:Loc X.env.scope x) (r:Z6 v u)
  (h:∀ s',Zo X pins (σ.set i (some v)) H s'→(∃ a,Heap.SameBut a s.heap s'.heap∧(a = X.env.locals ∨ X.env.cells.lookup x = some a))→Q () s') (hf:X.fn x = true ∨ X.env.scope.names.lookup x = some .local:=by first | exact .inl rfl | exact .inr rfl | assumption):wpAny M A (storeName X.env x u) Q E s:=by
 obtain ⟨m,hn,hl⟩:=id I.loc
 have hcls:(X.env.scope.kind == .class || (X.env.scope.kind == .module && X.env.locals != X.env.globals)) = false:=by rw [I.ok.kind]; rfl
 have hiσ:i < σ.length:=by rw [I.len]; exact (List.getElem?_eq_some_iff.mp hi).1
 have cne:=I.cne
 have tracked:∀ {a:Addr} {h':Heap},(∃ o,s.heap.get? a = some o∧H a = none)→Heap.SameBut a s.heap h'→HOk X.prog X.w H h':=fun {a h'} ha hs b ob e => by
  obtain ⟨_,_,hfree⟩:=ha
  refine (I.hok b ob e).stay (fun c w' hc q => (hs.2 c ?_).trans q) (fun _ q => q) fun _ _ q => q
  rintro rfl
  rcases hc with rfl | hc
  ·rw [hfree] at e; cases e
  ·rw [hfree] at hc; cases hc
 rcases hx with hk | hk
 ·refine wpAny_storeName_local hk hn (fun h' hn' hs => ?_) hcls
  obtain ⟨oL,_,_,hoL,_⟩:=id hn
  refine h _ ⟨I.ok,I.os,I.bare,⟨fun b o e n hb hx => ?_,fun b o e n hb hx => ?_,I.base.free,fun b o e hx => ?_,I.base.tups,I.base.frzs,I.base.tbls⟩,⟨_,hn',fun j y v' e1 e2 e3 => ?_⟩,fun y c e => ?_,I.free,I.freeC,fun p hp => ?_,tracked ⟨oL,hoL,I.free⟩ hs,by simpa using I.len⟩ ⟨_,hs,.inl rfl⟩
  ·exact (hs.2 b (Nat.ne_of_lt (Nat.lt_of_lt_of_le (Heap.lt_size e) I.ok.above))).trans (I.base.keep b o e n hb hx)
  ·obtain ⟨sl,e1⟩:=I.base.slot b o e n hb hx
   exact ⟨sl,(hs.2 b (Nat.ne_of_lt (Nat.lt_of_lt_of_le (Heap.lt_size e) I.ok.above))).trans e1⟩
  ·obtain ⟨o',e1⟩:=I.base.there b o e hx
   exact ⟨o',(hs.2 b (Nat.ne_of_lt (Nat.lt_of_lt_of_le (Heap.lt_size e) I.ok.above))).trans e1⟩
  ·by_cases hj:j = i
   ·subst hj
    rw [hi] at e1; cases e1
    rw [List.getElem?_set_self hiσ] at e2
    cases e2
    exact ⟨u,r,.inl ⟨hk,by simp⟩⟩
   ·rw [List.getElem?_set_ne (Ne.symm hj)] at e2
    obtain ⟨u',r',q⟩:=hl j y v' e1 e2 e3
    refine ⟨u',r', ?_⟩
    rcases q with ⟨k,e⟩ | ⟨k,c,e,z⟩
    ·refine .inl ⟨k, ?_⟩
     have:y ≠ x:=fun e => hj (nodup_ix hN e1 (e ▸ hi))
     simp [this,e]
    ·exact .inr ⟨k,c,e,z.sameBut hs (cne y c e)⟩
  ·obtain ⟨w',z⟩:=I.cell y c e
   exact ⟨w',z.sameBut hs (cne y c e)⟩
  ·obtain ⟨e,n,ne,nf,d⟩:=I.pin p hp
   exact ⟨(hs.2 p.1 ne).trans e,n,ne,nf,d⟩
 ·have hfn:X.fn x = true:=by
   rcases hf with z | z
   ·exact z
   ·rw [z] at hk; cases hk
  obtain ⟨c,hc⟩:=I.ok.has x (.inl hk)
  obtain ⟨w',z⟩:=I.cell x c hc
  refine wpAny_storeName_cell I.ok.kind hk hc z (fun h' hc' hs => ?_)
  obtain ⟨oc,hoc,hocd⟩:=id z
  refine h { s with heap:=h' } ⟨I.ok,I.os,I.bare,⟨fun b o e n hb hx => ?_,fun b o e n hb hx => ?_,I.base.free,fun b o e hx => ?_,I.base.tups,I.base.frzs,I.base.tbls⟩,⟨m,hn.sameBut hs (Ne.symm (cne x c hc)),fun j y v' e1 e2 e3 => ?_⟩,fun y c' e => ?_,I.free,I.freeC,fun p hp => ?_,tracked ⟨oc,hoc,I.freeC x c hc⟩ hs,by simpa using I.len⟩ ⟨c,hs,.inr hc⟩
  ·exact (hs.2 b (Nat.ne_of_lt (Nat.lt_of_lt_of_le (Heap.lt_size e) (I.ok.cab x c hfn hc)))).trans (I.base.keep b o e n hb hx)
  ·obtain ⟨sl,e1⟩:=I.base.slot b o e n hb hx
   exact ⟨sl,(hs.2 b (Nat.ne_of_lt (Nat.lt_of_lt_of_le (Heap.lt_size e) (I.ok.cab x c hfn hc)))).trans e1⟩
  ·obtain ⟨o',e1⟩:=I.base.there b o e hx
   exact ⟨o',(hs.2 b (Nat.ne_of_lt (Nat.lt_of_lt_of_le (Heap.lt_size e) (I.ok.cab x c hfn hc)))).trans e1⟩
  ·by_cases hj:j = i
   ·subst hj
    rw [hi] at e1; cases e1
    rw [List.getElem?_set_self hiσ] at e2
    cases e2
    exact ⟨u,r,.inr ⟨.inl hk,c,hc,hc'⟩⟩
   ·rw [List.getElem?_set_ne (Ne.symm hj)] at e2
    obtain ⟨u',r',q⟩:=hl j y v' e1 e2 e3
    refine ⟨u',r', ?_⟩
    rcases q with q | ⟨k,c',e,z'⟩
    ·exact .inl q
    ·refine .inr ⟨k,c',e,z'.sameBut hs ?_⟩
     rintro rfl
     exact hj (nodup_ix hN e1 (I.ok.inj _ _ _ e hc ▸ hi))
  ·by_cases hcc:c' = c
   ·subst hcc; exact ⟨_,hc'⟩
   ·obtain ⟨w2,z2⟩:=I.cell y c' e
    exact ⟨w2,z2.sameBut hs hcc⟩
  ·obtain ⟨e,n,ne,nf,d⟩:=I.pin p hp
   refine ⟨(hs.2 p.1 ?_).trans e,n,ne,nf,d⟩
   intro q
   rw [q,hoc] at e
   have q':oc = p.2:=Option.some.inj e
   exact d w' (by rw [← q']; exact hocd)
theorem store_ok {M:Model} {A:Around} {E:Value→Shared→Prop} {i:Nat} {x:Str} {v:V} {u:Value} {Q:Unit→Shared→Prop} (I:Zo X pins σ H s) (hN:X.N.Nodup) (hi:X.N[i]? = some x) (hx:Loc X.env.scope x) (r:Z6 v u)
  (h:∀ s',Zo X pins (σ.set i (some v)) H s'→Q () s') (hf:X.fn x = true ∨ X.env.scope.names.lookup x = some .local:=by first | exact .inl rfl | exact .inr rfl | assumption):wpAny M A (storeName X.env x u) Q E s :=
 store_ok2 I hN hi hx r (fun s' I' _ => h s' I') hf
theorem Zo.call' {s':Shared} {ch:List Addr} (I:Zo X pins σ H s) (ho:s'.os = s.os) (u:Un (frs X.stack) ch H H' s.heap s'.heap) (hok:HOk X.prog X.w H' s'.heap) (hg:AllBare s'.gens)
  (hch:∀ b ∈ ch,(b ∈ X.ex ∨ X.s₀.heap.objs.size ≤ b)∧b ≠ X.env.locals∧(∀ x c,X.env.cells.lookup x = some c→c ≠ b)∧∀ p ∈ X.pn ++ pins,p.1 ≠ b):Zo X pins σ H' s':=by
 obtain ⟨h',g',d',t',o'⟩:=s'
 have e:o' = s.os:=ho
 subst e
 exact I.call (g':=g') (t':=t') (d':=d') u hok hg hch
end
abbrev XK:=Value→Option Addr→Hp→Prop
abbrev St:=List (Option V)
abbrev VK:=V→Hp→Prop
abbrev TE:=St→Hp→VK→Prop
abbrev TT:=St→Hp→(Bool→Hp→Prop)→Prop
abbrev TA:=St→Hp→(List V→Hp→Prop)→Prop
structure Ends where
 nx:St→Hp→Prop
 rt:VK
 bk:St→Hp→Prop:=fun _ _ => False
 ct:St→Hp→Prop:=fun _ _ => False
abbrev TS:=Ends→St→Hp→Prop
def EP (X:Cx) (pins:List (Addr × Obj)) (σ:St) (Q:VK) (u:Value) (s':Shared):Prop:=∃ v H',Zo X pins σ H' s'∧Z6 v u∧Q v H'
def TP (X:Cx) (pins:List (Addr × Obj)) (σ:St) (Q:Bool→Hp→Prop) (b:Bool) (s':Shared):Prop:=∃ H',Zo X pins σ H' s'∧Q b H'
def AP (X:Cx) (pins:List (Addr × Obj)) (σ:St) (Q:List V→Hp→Prop) (us:List Value) (s':Shared):Prop:=∃ vs H',Zo X pins σ H' s'∧Z2 vs us∧Q vs H'
def SP (X:Cx) (pins:List (Addr × Obj)) (D:Ends) (f:Flow) (s':Shared):Prop :=
 match f with
 | .next => ∃ σ' H',Zo X pins σ' H' s'∧D.nx σ' H'
 | .brk => ∃ σ' H',Zo X pins σ' H' s'∧D.bk σ' H'
 | .cont => ∃ σ' H',Zo X pins σ' H' s'∧D.ct σ' H'
 | .ret u => ∃ v σ' H',Zo X pins σ' H' s'∧Z6 v u∧D.rt v H'
def PE (X:Cx) (e:Expr) (t:TE):Prop :=
 ∀ (pins:List (Addr × Obj)) (s:Shared) (σ:St) (H:Hp) (Q:VK),Zo X pins σ H s→t σ H Q→wpAny (model X.prog X.w) X.A (eval e X.env) (EP X pins σ Q) X.xe s
def PT (X:Cx) (e:Expr) (t:TT):Prop :=
 ∀ (pins:List (Addr × Obj)) (s:Shared) (σ:St) (H:Hp) (Q:Bool→Hp→Prop),Zo X pins σ H s→t σ H Q→wpAny (model X.prog X.w) X.A (isTrue e X.env (eval e X.env)) (TP X pins σ Q) X.xe s
def PW (X:Cx) (e:Expr) (t:TT):Prop :=
 ∀ (whole:Sem Value) (pins:List (Addr × Obj)) (s:Shared) (σ:St) (H:Hp) (Q:Bool→Hp→Prop),Zo X pins σ H s→t σ H Q→wpAny (model X.prog X.w) X.A (isTrue e X.env whole) (TP X pins σ Q) X.xe s
theorem PW.pt {X:Cx} {e:Expr} {t:TT} (h:PW X e t):PT X e t:=h _
def PA (X:Cx) (es:List Expr) (t:TA):Prop :=
 ∀ (pos:Pos) (pins:List (Addr × Obj)) (s:Shared) (σ:St) (H:Hp) (Q:List V→Hp→Prop),Zo X pins σ H s→t σ H Q→wpAny (model X.prog X.w) X.A (spliced (backTo pos (starEach es X.env))) (AP X pins σ Q) X.xe s
def PS (X:Cx) (st:Stmt) (t:TS):Prop :=
 ∀ (pins:List (Addr × Obj)) (s:Shared) (σ:St) (H:Hp) (D:Ends),Zo X pins σ H s→t D σ H→wpAny (model X.prog X.w) X.A (exec st X.env) (SP X pins D) X.xe s
def PSs (X:Cx) (st:List Stmt) (t:TS):Prop :=
 ∀ (pins:List (Addr × Obj)) (s:Shared) (σ:St) (H:Hp) (D:Ends),Zo X pins σ H s→t D σ H→wpAny (model X.prog X.w) X.A (execs st X.env) (SP X pins D) X.xe s
theorem Y9 {α:Type} {t:Sem α} {Q Q':α→Shared→Prop} {M:Model} {A:Around} {E:Value→Shared→Prop} {s:Shared} (h:wpAny M A t Q E s) (hQ:∀ a s,Q a s→Q' a s):wpAny M A t Q' E s:=wpAny_mono h hQ fun _ _ x => x
section
variable {X:Cx}
def tVar (i:Nat):TE:=fun σ H Q => ∃ v,σ[i]? = some (some v)∧Q v H
def tC (v:V):TE:=fun _ H Q => Q v H
theorem pe_var {i:Nat} {x:Str} {pos:Pos} (hN:X.N[i]? = some x) (hv:Vis X.env.scope x) (hd:(x == ("__debug__" : Str)) = false:=by decide) (hcd:(x == ("__classdict__" : Str)) = false:=by decide):PE X (.Name x pos) (tVar i):=by
 intro pins s σ H Q I h
 obtain ⟨v,e,h⟩:=h
 obtain ⟨m,hn,hl⟩:=I.loc
 obtain ⟨u,r,l⟩:=hl i x v hN e hv
 have fin:EP X pins σ Q u s:=⟨v,H,I,r,h⟩
 rcases l with ⟨hk,hm⟩ | ⟨hk,c,hc,hcell⟩
 ·exact wpAny_Name (wpAny_loadName_local I.ok.kind hk hn hm fin) hd
 ·rcases hk with hk | hk
  ·exact wpAny_Name (wpAny_loadName_cell I.ok.kind hk hc hcell fin) hd
  ·exact wpAny_Name (wpAny_loadName_free I.ok.kind hk hc hcell fin hcd) hd
theorem Zx {i j pos}:PE X (.Constant (.int i) j pos) (tC (.int i)):=fun _ _ _ H _ I h => wpAny_Constant_int ⟨.int i,H,I.tok _,⟨_,rfl⟩,h⟩
theorem pe_bl {b j pos}:PE X (.Constant (.bool b) j pos) (tC (.bl b)):=fun _ _ _ H _ I h => Constant_bool ⟨.bl b,H,I,rfl,h⟩
theorem pe_non {j pos}:PE X (.Constant .none j pos) (tC .non):=fun _ _ _ H _ I h => Constant_none ⟨.non,H,I,rfl,h⟩
theorem Zc {x j pos}:PE X (.Constant (.str x) j pos) (tC (.str x)):=fun _ _ _ H _ I h => Calls.Constant_str ⟨.str x,H,I.tok _,⟨_,rfl⟩,h⟩
def Gl (X:Cx) (x:Str):Prop:=X.env.kindOf x = some .globalImplicit
theorem ld_glob {E:Value→Shared→Prop} {pins:List (Addr × Obj)} {s:Shared} {σ:St} {H:Hp} {x:Str} {u:Value} {pos:Pos} {Q:Value→Shared→Prop} (I:Zo X pins σ H s) (hg:Gl X x) (hm:X.mg x = some u) (h:Q u s)
  (hd:(x == ("__debug__" : Str)) = false:=by decide):wpAny (model X.prog X.w) X.A (eval (.Name x pos) X.env) Q E s :=
 Calls.Name_function_global I.ok.kind hg (Calls.loadGlobal_global (by rw [I.ok.glob]; exact I.mod.glob.keeps I.bk) hm h) hd
theorem V7 {E:Value→Shared→Prop} {pins:List (Addr × Obj)} {s:Shared} {σ:St} {H:Hp} {x:Str} {u:Value} {pos:Pos} {Q:Value→Shared→Prop} (I:Zo X pins σ H s) (hg:Gl X x) (hm:X.mg x = none) (hv:bootBuiltins x = some u) (h:Q u s)
  (hn:x ≠ "__name__" := by decide) (hd:(x == ("__debug__" : Str)) = false:=by decide):wpAny (model X.prog X.w) X.A (eval (.Name x pos) X.env) Q E s:=by
 obtain ⟨mb,h1,h2⟩:=I.mod.blt
 exact Calls.Name_function_global I.ok.kind hg (Calls.loadGlobal_builtin (by rw [I.ok.glob]; exact I.mod.glob.keeps I.bk) hm (by rw [I.ok.blt]; exact h1.keeps I.bk) ((h2 x hn).trans hv) h) hd
theorem pe_glob {x:Str} {v:V} {u:Value} {pos:Pos} (hg:Gl X x) (hm:X.mg x = some u) (r:Z6 v u) (hd:(x == ("__debug__" : Str)) = false:=by decide):PE X (.Name x pos) (tC v) :=
 fun _ _ _ H _ I h => ld_glob I hg hm ⟨v,H,I,r,h⟩ hd
theorem pe_bltn {x:Str} {v:V} {u:Value} {pos:Pos} (hg:Gl X x) (hm:X.mg x = none) (hv:bootBuiltins x = some u) (r:Z6 v u) (hn:x ≠ "__name__" := by decide) (hd:(x == ("__debug__" : Str)) = false:=by decide):PE X (.Name x pos) (tC v) :=
 fun _ _ _ H _ I h => V7 I hg hm hv ⟨v,H,I,r,h⟩ hn hd
variable {a b:Expr} {ta tb:TE} {pos:Pos}
def tB (t:TE):TT:=fun σ H Q => t σ H fun x H1 => ∃ c,x = .bl c∧Q c H1
theorem pt_val {e:Expr} {t:TE} (h:PE X e t) (he:∀ whole,isTrue e X.env whole = (do let v ← whole; standAt e.pos; holding [v] (truthy v)):=by intro _; rfl):PT X e (tB t):=by
 intro pins s σ H Q I hw
 refine isTrue_plain (Y9 (h pins s σ H _ I hw) fun v s1 ⟨x,H1,I1,r1,q1⟩ => ?_) (he _)
 obtain ⟨d,rfl,q⟩:=q1
 cases r1
 exact wpAny_truthy_bool ⟨H1,I1,q⟩
variable {tA tB':TT} {Vz:List Expr}
def tOr (t u:TT):TT:=fun σ H Q => t σ H fun c H1 => if c = true then Q true H1 else u σ H1 Q
def tNot (t:TT):TT:=fun σ H Q => t σ H fun c H1 => Q (!c) H1
theorem pw_or1 (ha:PT X a tA):PW X (.BoolOp .Or [a] pos) tA:=by
 intro wh pins s σ H Q I h
 refine isTrue_or (Y9 (ha pins s σ H Q I h) fun c s1 e => ?_)
 cases c with
 | false => exact isTrue_or_nil e
 | true => exact e
theorem pw_or (ha:PT X a tA) (hb:PW X (.BoolOp .Or (b :: Vz) pos) tB'):PW X (.BoolOp .Or (a :: b :: Vz) pos) (tOr tA tB'):=by
 intro wh pins s σ H Q I h
 refine isTrue_or (Y9 (ha pins s σ H _ I h) fun c s1 ⟨H1,I1,q1⟩ => ?_)
 cases c with
 | true => exact ⟨H1,I1,q1⟩
 | false => exact hb wh pins s1 σ H1 Q I1 q1
theorem pt_not (ha:PT X a tA):PT X (.UnaryOp .Not a pos) (tNot tA):=by
 intro pins s σ H Q I h
 exact isTrue_not (ha pins s σ H (fun c H1 => Q (!c) H1) I h)
def tAndV (ta tb:TE):TE:=fun σ H Q => ta σ H fun x H1 => ∃ c,x = .bl c∧if c = true then tb σ H1 Q else Q (.bl false) H1
def tOrV (ta tb:TE):TE:=fun σ H Q => ta σ H fun x H1 => ∃ c,x = .bl c∧if c = true then Q (.bl true) H1 else tb σ H1 Q
theorem pe_one {op} {t:TE} (h:PE X a t):PE X (.BoolOp op [a] pos) t:=fun pins s σ H Q I hw => BoolOp_one (h pins s σ H Q I hw)
theorem pe_and (ha:PE X a ta) (hb:PE X (.BoolOp .And (b :: Vz) pos) tb):PE X (.BoolOp .And (a :: b :: Vz) pos) (tAndV ta tb):=by
 intro pins s σ H Q I h
 refine BoolOp_and (Y9 (ha pins s σ H _ I h) fun v s1 ⟨x,H1,I1,r1,q1⟩ => ?_)
 obtain ⟨c,rfl,q1⟩:=q1
 cases r1
 refine wpAny_truthy_bool ?_
 cases c with
 | true => exact hb pins s1 σ H1 Q I1 q1
 | false => exact ⟨.bl false,H1,I1,rfl,q1⟩
theorem pe_or (ha:PE X a ta) (hb:PE X (.BoolOp .Or (b :: Vz) pos) tb):PE X (.BoolOp .Or (a :: b :: Vz) pos) (tOrV ta tb):=by
 intro pins s σ H Q I h
 refine BoolOp_or (Y9 (ha pins s σ H _ I h) fun v s1 ⟨x,H1,I1,r1,q1⟩ => ?_)
 obtain ⟨c,rfl,q1⟩:=q1
 cases r1
 refine wpAny_truthy_bool ?_
 cases c with
 | false => exact hb pins s1 σ H1 Q I1 q1
 | true => exact ⟨.bl true,H1,I1,rfl,q1⟩
def tIf (t:TT) (ta tb:TE):TE:=fun σ H Q => t σ H fun c H1 => if c = true then ta σ H1 Q else tb σ H1 Q
theorem pe_ifExp {c:Expr} (hc:PT X c tA) (ha:PE X a ta) (hb:PE X b tb):PE X (.IfExp c a b pos) (tIf tA ta tb):=by
 intro pins s σ H Q I h
 refine wpAny_IfExp (Y9 (hc pins s σ H _ I h) fun d s1 ⟨H1,I1,q1⟩ => ?_)
 cases d with
 | true => exact ha pins s1 σ H1 Q I1 q1
 | false => exact hb pins s1 σ H1 Q I1 q1
end
def Ym (K:W.Frag) (H:Hp) (a:Addr) (xs:List V):Prop :=
 Rd H a (.lst xs) ∨
  ∃ (o:Obj) (its:Array Value) (n:Nat),K.lookup a = some o∧o.cls = .type "list" ∧ o.dict = none∧o.data = .seq its n∧its.size ≤ sizeLine∧Z2 xs its.toList
def Z9 (K:W.Frag) (H:Hp) (a:Addr) (xs:List V):Prop :=
 Rd H a (.tup xs) ∨
  ∃ (o:Obj) (its:Array Value) (n:Nat),K.lookup a = some o∧o.cls = .type "tuple" ∧ o.data = .seq its n∧its.size ≤ sizeLine∧Z2 xs its.toList
def absV:Value→Option V
 | .none => some .non
 | .bool b => some (.bl b)
 | .int i _ => some (.int i)
 | .str x _ => some (.str x)
 | .bytes b _ => some (.byt b)
 | .float b _ => some (.flt b)
 | .ref a => some (.ref a)
 | .type n => some (.ty n)
 | _ => none
theorem Z6.abs {x:V} {u:Value} (r:Z6 x u):absV u = some x:=by
 cases x with
 | non => cases r; rfl
 | bl _ => cases r; rfl
 | int _ => obtain ⟨t,rfl⟩:=r; rfl
 | str _ => obtain ⟨t,rfl⟩:=r; rfl
 | byt _ => obtain ⟨t,rfl⟩:=r; rfl
 | flt _ => obtain ⟨t,rfl⟩:=r; rfl
 | ref _ => cases r; rfl
 | ty _ => cases r; rfl
theorem Z6.inj {x y:V} {u:Value} (r:Z6 x u) (q:Z6 y u):x = y:=Option.some.inj (r.abs.symm.trans q.abs)
theorem Z2.inj:∀ {xs ys:List V} {us:List Value},Z2 xs us→Z2 ys us→xs = ys
 | _,_,_,.nil,.nil => rfl
 | _,_,_,.cons r t,.cons r' t' => by rw [r.inj r',Z2.inj t t']
section
variable {X:Cx} {pins:List (Addr × Obj)} {σ:St} {H:Hp} {s:Shared} {a:Addr} {xs ys:List V}
theorem Ym.of {K:W.Frag} (h:H a = some (.lst xs)):Ym K H a xs:=.inl (.inl h)
theorem Z9.of {K:W.Frag} (h:H a = some (.tup xs)):Z9 K H a xs:=.inl (.inl h)
theorem Zo.list (I:Zo X pins σ H s) (h:Ym X.K H a xs):∃ its:List Value,Z2 xs its∧PlainL s.heap a its.toArray∧xs.length ≤ sizeLine:=by
 rcases h with h | ⟨o,its,n,hk,hc,hd,hs,hz,r⟩
 ·obtain ⟨z,its,n,r,e⟩:=h.ok I.hok
  exact ⟨its,r,⟨_,n,e,rfl,rfl,rfl⟩,z⟩
 ·refine ⟨its.toList,r,⟨o,n,I.kIn a o hk,hc,hd,by simpa using hs⟩, ?_⟩
  have e:=r.length
  simp only [Array.length_toList] at e
  omega
theorem Zo.tuple (I:Zo X pins σ H s) (h:Z9 X.K H a xs):∃ its:List Value,Z2 xs its∧IsTup s.heap a its.toArray∧xs.length ≤ sizeLine:=by
 rcases h with h | ⟨o,its,n,hk,hc,hs,hz,r⟩
 ·obtain ⟨z,its,r,p⟩:=h.ok I.hok
  exact ⟨its,r,p,z⟩
 ·refine ⟨its.toList,r,⟨o,I.kIn a o hk,hc,n,by simpa using hs⟩, ?_⟩
  have e:=r.length
  simp only [Array.length_toList] at e
  omega
theorem Zo.list_inj (I:Zo X pins σ H s) (h:Ym X.K H a xs) (h':Ym X.K H a ys):xs = ys:=by
 obtain ⟨its,r,⟨o,n,e,_,_,d⟩,_⟩:=I.list h
 obtain ⟨its',r',⟨o',n',e',_,_,d'⟩,_⟩:=I.list h'
 rw [e] at e'; cases e'
 rw [d] at d'
 injection d' with d1 _
 have:its = its':=by simpa using congrArg Array.toList d1
 subst this
 exact r.inj r'
theorem Zo.tuple_inj (I:Zo X pins σ H s) (h:Z9 X.K H a xs) (h':Z9 X.K H a ys):xs = ys:=by
 obtain ⟨its,r,⟨o,e,_,n,d⟩,_⟩:=I.tuple h
 obtain ⟨its',r',⟨o',e',_,n',d'⟩,_⟩:=I.tuple h'
 rw [e] at e'; cases e'
 rw [d] at d'
 injection d' with d1 _
 have:its = its':=by simpa using congrArg Array.toList d1
 subst this
 exact r.inj r'
end
abbrev Cx.wish (X:Cx) (E:Value→Shared→Prop):Cx:={ X with xe:=E }
abbrev Cx.nox (X:Cx):Cx:=X.wish fun _ _ => False
theorem Cx.Ok.wish {X:Cx} (ok:X.Ok) (E:Value→Shared→Prop):(X.wish E).Ok :=
 ⟨ok.mod,ok.kind,ok.glob,ok.blt,ok.above,ok.inj,ok.has,ok.cab,ok.hd,ok.frames,ok.stk,ok.exf,ok.bs,ok.bsz,ok.noex,ok.exfs,ok.funs,ok.frf⟩
theorem Cx.Ok.unwish {X:Cx} {E:Value→Shared→Prop} (ok:(X.wish E).Ok):X.Ok :=
 ⟨ok.mod,ok.kind,ok.glob,ok.blt,ok.above,ok.inj,ok.has,ok.cab,ok.hd,ok.frames,ok.stk,ok.exf,ok.bs,ok.bsz,ok.noex,ok.exfs,ok.funs,ok.frf⟩
section
variable {X:Cx} {pins:List (Addr × Obj)} {σ:St} {H:Hp} {s:Shared} {E:Value→Shared→Prop}
theorem Zo.wish (I:Zo X pins σ H s) (E:Value→Shared→Prop):Zo (X.wish E) pins σ H s:=⟨I.ok.wish E,I.os,I.bare,I.base,I.loc,I.cell,I.free,I.freeC,I.pin,I.hok,I.len⟩
theorem Zo.unwish (I:Zo (X.wish E) pins σ H s):Zo X pins σ H s:=⟨I.ok.unwish,I.os,I.bare,I.base,I.loc,I.cell,I.free,I.freeC,I.pin,I.hok,I.len⟩
theorem SP.unwish {D:Ends} {f:Flow} {s':Shared} (h:SP (X.wish E) pins D f s'):SP X pins D f s':=by
 cases f with
 | next => obtain ⟨σ',H',I,q⟩:=h; exact ⟨σ',H',I.unwish,q⟩
 | brk => obtain ⟨σ',H',I,q⟩:=h; exact ⟨σ',H',I.unwish,q⟩
 | cont => obtain ⟨σ',H',I,q⟩:=h; exact ⟨σ',H',I.unwish,q⟩
 | ret u => obtain ⟨v,σ',H',I,r,q⟩:=h; exact ⟨v,σ',H',I.unwish,r,q⟩
theorem PSs.nox {st:List Stmt} {t:TS} (h:PSs X.nox st t):PSs X st t:=fun pins s σ H D I hw =>
 wpAny_mono (h pins s σ H D (I.wish _) hw) (fun _ _ q => q.unwish) fun _ _ z => False.elim z
end
section
variable {X:Cx} {st:Stmt} {Vz:List Stmt} {t u:TS} {e:Expr} {te:TE} {pos:Pos}
def tNext:TS:=fun D σ H => D.nx σ H
def tSeq (t u:TS):TS:=fun D σ H => t { D with nx:=u D } σ H
theorem Za:PSs X [] tNext:=fun _ _ σ H _ I h => wpAny_execs_nil ⟨σ,H,I,h⟩
theorem Zj (h1:PS X st t) (h2:PSs X Vz u):PSs X (st :: Vz) (tSeq t u):=by
 intro pins s σ H D I h
 refine wpAny_execs_cons (Y9 (h1 pins s σ H { D with nx:=u D } I h) fun f s1 q => ?_)
 cases f with
 | next =>
  obtain ⟨σ',H',I',q⟩:=q
  exact h2 pins s1 σ' H' D I' q
 | ret v => exact q
 | brk => exact q
 | cont => exact q
theorem Zv (h1:PS X st t):PSs X [st] t:=by
 intro pins s σ H D I h
 refine wpAny_execs_cons (Y9 (h1 pins s σ H D I h) fun f s1 q => ?_)
 cases f with
 | next => exact wpAny_execs_nil q
 | ret v => exact q
 | brk => exact q
 | cont => exact q
theorem Zo.quiet {pins:List (Addr × Obj)} {σ:St} {H:Hp} {s:Shared} (I:Zo X pins σ H s):interactive X.env = false:=by simp [interactive,I.ok.kind]
def tDrop (te:TE):TS:=fun D σ H => te σ H fun _ H1 => D.nx σ H1
theorem Yw (he:PE X e te) (hs:swapsWith e none pos.line X.env = pure false:=by rfl):PS X (.Expr e pos) (tDrop te):=by
 intro pins s σ H D I h
 exact wpAny_Expr_any (Y9 (he pins s σ H _ I h) fun v s1 ⟨x,H1,I1,r1,q1⟩ => ⟨σ,H1,I1,q1⟩) I.quiet hs
def tRet (te:TE):TS:=fun D σ H => te σ H D.rt
theorem Zd (he:PE X e te):PS X (.Return (some e) pos) (tRet te):=by
 intro pins s σ H D I h
 exact wpAny_Return_some (Y9 (he pins s σ H _ I h) fun v s1 ⟨x,H1,I1,r1,q1⟩ => ⟨x,σ,H1,I1,r1,q1⟩)
def tIfS (c:TT) (t u:TS):TS:=fun D σ H => c σ H fun b H1 => if b = true then t D σ H1 else u D σ H1
theorem Z8 {c:Expr} {a b:List Stmt} {tc:TT} (hc:PT X c tc) (ha:PSs X a t) (hb:PSs X b u):PS X (.If c a b pos) (tIfS tc t u):=by
 intro pins s σ H D I h
 refine wpAny_If (Y9 (hc pins s σ H _ I h) fun d s1 ⟨H1,I1,q1⟩ => ?_)
 cases d with
 | true => exact ha pins s1 σ H1 D I1 q1
 | false => exact hb pins s1 σ H1 D I1 q1
def tNever:TS:=fun _ _ _ => False
theorem pss_never {sts:List Stmt}:PSs X sts tNever:=fun _ _ _ _ _ _ h => h.elim
end
abbrev TG:=V→St→Hp→(St→Hp→Prop)→Prop
abbrev TGs:=List V→St→Hp→(St→Hp→Prop)→Prop
def PG (X:Cx) (target:Expr) (t:TG):Prop :=
 ∀ (pins:List (Addr × Obj)) (s:Shared) (σ:St) (H:Hp) (v:V) (u:Value) (Q:St→Hp→Prop),Zo X pins σ H s→Z6 v u→t v σ H Q →
  wpAny (model X.prog X.w) X.A (assign target X.env u) (fun _ s' => ∃ σ' H',Zo X pins σ' H' s'∧Q σ' H') X.xe s
def PGs (X:Cx) (ts:List Expr) (t:TGs):Prop :=
 ∀ (pins:List (Addr × Obj)) (s:Shared) (σ:St) (H:Hp) (vs:List V) (us:List Value) (Q:St→Hp→Prop),Zo X pins σ H s→Z2 vs us→t vs σ H Q →
  wpAny (model X.prog X.w) X.A (assignInOrder ((assignEach ts X.env).map (·.2)) us) (fun _ s' => ∃ σ' H',Zo X pins σ' H' s'∧Q σ' H') X.xe s
abbrev TSet:=V→V→V→Hp→(Hp→Prop)→Prop
def PSet (X:Cx) (t:TSet):Prop :=
 ∀ (pins:List (Addr × Obj)) (s:Shared) (σ:St) (H:Hp) (o i v:V) (ov iv u:Value) (Q:Hp→Prop),Zo X pins σ H s→Z6 o ov→Z6 i iv→Z6 v u→t o i v H Q →
  wpAny (model X.prog X.w) X.A (setItem ov iv u) (fun _ s' => ∃ H',Zo X pins σ H' s'∧Q H') X.xe s
section
variable {X:Cx} {pos:Pos}
def gName (i:Nat):TG:=fun v σ H Q => Q (σ.set i (some v)) H
theorem pg_name {i:Nat} {x:Str} (hN:X.N.Nodup) (hi:X.N[i]? = some x) (hx:Loc X.env.scope x) (hf:X.fn x = true ∨ X.env.scope.names.lookup x = some .local:=by first | exact .inl rfl | exact .inr rfl | assumption):PG X (.Name x pos) (gName i):=by
 intro pins s σ H v u Q I r h
 exact wpAny_assign_Name (store_ok I hN hi hx r (fun s' I' => ⟨_,H,I',h⟩) hf)
def gNil:TGs:=fun vs σ H Q => vs = []∧Q σ H
def gCons (t:TG) (u:TGs):TGs:=fun vs σ H Q => ∃ v r,vs = v :: r∧t v σ H fun σ' H' => u r σ' H' Q
theorem pgs_nil:PGs X [] gNil:=by
 intro pins s σ H vs us Q I r h
 obtain ⟨e,h⟩:=h
 subst e
 cases r
 exact assignInOrder_nil ⟨σ,H,I,h⟩
theorem Vj {e:Expr} {es:List Expr} {t:TG} {u:TGs} (h1:PG X e t) (h2:PGs X es u)
  (hs:(assignEach (e :: es) X.env).map (·.2) = assign e X.env :: (assignEach es X.env).map (·.2):=by rfl):PGs X (e :: es) (gCons t u):=by
 intro pins s σ H vs us Q I r h
 obtain ⟨v,vr,e1,h⟩:=h
 subst e1
 cases r with
 | cons r rr =>
  rw [hs]
  refine assignInOrder_cons (Y9 (h1 pins s σ H _ _ _ I r h) fun _ s1 ⟨σ1,H1,I1,q1⟩ => ?_)
  exact h2 pins s1 σ1 H1 _ _ Q I1 rr q1
def gTup (K:W.Frag) (n:Nat) (t:TGs):TG:=fun v σ H Q => ∃ a xs,v = .ref a∧Z9 K H a xs∧xs.length = n∧t xs σ H Q
theorem pg_tup {es:List Expr} {k:Nat} {t:TGs} {n:Nat} (hc:X.calm = true) (h:PGs X es t)
  (hn:(assignEach es X.env).length = n:=by rfl) (hst:(assignEach es X.env).findIdx? (·.1) = none:=by rfl):PG X (.Tuple es k pos) (gTup X.K n t):=by
 intro pins s σ H v u Q I r hw
 obtain ⟨a,xs,e1,hq,hl,hw⟩:=hw
 subst e1
 cases r
 obtain ⟨its,rv,ht,hz⟩:=I.tuple hq
 refine assign_Tuple_tuple (I.ok.hd hc) ht (by simp [hn, ← hl,rv.length]) hst fun h' hx => ?_
 have I1:Zo X pins σ H { s with heap:=h' }:=I.kept (t':=s.toks) fun b o e => hx b o (Nat.ne_of_lt (Heap.lt_size e)) e
 exact h pins _ σ H xs _ Q I1 (by simpa using rv) hw
def gSub (to ti:TE) (t:TSet):TG:=fun v σ H Q => to σ H fun o H1 => ti σ H1 fun i H2 => t o i v H2 fun H3 => Q σ H3
theorem pg_sub {o i:Expr} {to ti:TE} {t:TSet} (ho:PE X o to) (hi:PE X i ti) (hs:PSet X t)
  (ha:∀ v,assign (.Subscript o i pos) X.env v = (do
   let ov ← holding [v] (eval o X.env)
   let iv ← holding [v,ov] (eval i X.env)
   standAt pos
   holding [v,ov,iv] (setItem ov iv v)
   release [v,ov,iv] []):=by intro _; rfl):PG X (.Subscript o i pos) (gSub to ti t):=by
 intro pins s σ H v u Q I r h
 rw [ha]
 refine wpAny_bind (wpAny_holding (Y9 (ho pins s σ H _ I h) fun ov s1 ⟨x,H1,I1,r1,q1⟩ => ?_))
 refine wpAny_bind (wpAny_holding (Y9 (hi pins s1 σ H1 _ I1 q1) fun iv s2 ⟨y,H2,I2,r2,q2⟩ => ?_))
 refine wpAny_bind (wpAny_standAt (wpAny_bind (wpAny_holding (Y9 (hs pins s2 σ H2 x y v ov iv u _ I2 r1 r2 r q2) fun _ s3 ⟨H3,I3,q3⟩ => ?_))))
 exact wpAny_release ⟨σ,H3,I3,q3⟩
def tAsg (te:TE) (g:TG):TS:=fun D σ H => te σ H fun x H1 => g x σ H1 D.nx
theorem ps_asg {tg e:Expr} {te:TE} {g:TG} (he:PE X e te) (hg:PG X tg g) (hs:swapsWithSole [tg] e pos.line X.env = pure false:=by rfl) (hw:swappedStores [tg] e X.env = pure none:=by rfl)
  (h1:(assignEach [tg] X.env).map (·.2) = [assign tg X.env]:=by rfl):PS X (.Assign [tg] e pos) (tAsg te g):=by
 intro pins s σ H D I h
 refine wpAny_Assign_stores (Y9 (he pins s σ H _ I h) fun v s1 ⟨x,H1,I1,r1,q1⟩ => ?_) hs hw
 rw [h1]
 exact Y9 (hg pins s1 σ H1 x v _ I1 r1 q1) fun _ s2 q => q
theorem ps_set {i:Nat} {x:Str} {e:Expr} {te:TE} {pos':Pos} (hN:X.N.Nodup) (hi:X.N[i]? = some x) (hx:Loc X.env.scope x) (he:PE X e te) (hs:swapsWith e (some (.Name x pos')) pos.line X.env = pure false:=by rfl) (hf:X.fn x = true ∨ X.env.scope.names.lookup x = some .local:=by first | exact .inl rfl | exact .inr rfl | assumption) :
  PS X (.Assign [.Name x pos'] e pos) (tAsg te (gName i)):=by
 intro pins s σ H D I h
 refine wpAny_Assign_Name (Y9 (he pins s σ H _ I h) fun v s1 ⟨y,H1,I1,r1,q1⟩ => ?_) hs
 exact store_ok I1 hN hi hx r1 (fun s2 I2 => ⟨_,H1,I2,q1⟩) hf
end
section
variable {X:Cx} {pos:Pos}
def tWhile (c:TT) (tb:TS):TS:=fun D σ H => ∃ W:Nat→St→Hp→Prop,(∃ m,W m σ H)∧∀ m σ H,W m σ H →
 c σ H fun b H1 => if b = true then ∃ N:St→Hp→Prop,(∀ σ' H',N σ' H'→∃ m',m' < m∧W m' σ' H')∧tb { D with nx:=N,ct:=N,bk:=D.nx } σ H1 else D.nx σ H1
theorem ps_while {c:Expr} {body:List Stmt} {tc:TT} {tb:TS} (hp:PassesOwn (model X.prog X.w) X.A X.env X.xe) (hc:PT X c tc) (hb:PSs X body tb):PS X (.While c body [] pos) (tWhile tc tb):=by
 intro pins s σ H D I h
 obtain ⟨W,⟨m0,w0⟩,turn⟩:=h
 refine wpAny_While (codeAny_whileLoop (fun n s' => ∃ σ' H',Zo X pins σ' H' s'∧W n σ' H') ?_ m0 ⟨σ,H,I,w0⟩)
 rintro n s1 ⟨σ1,H1,I1,w1⟩
 refine wpAny_passesOwn hp (Y9 (hc pins s1 σ1 H1 _ I1 (turn n σ1 H1 w1)) fun b s2 ⟨H2,I2,q2⟩ => ?_)
 cases b with
 | true =>
  obtain ⟨N,hN,q2⟩:=q2
  rw [if_pos rfl]
  refine wpAny_passesOwn hp (Y9 (hb pins s2 σ1 H2 _ I2 q2) fun f s3 q3 => ?_)
  cases f with
  | next =>
   obtain ⟨σ3,H3,I3,n3⟩:=q3
   obtain ⟨m',hm,w3⟩:=hN σ3 H3 n3
   exact ⟨m',hm,σ3,H3,I3,w3⟩
  | cont =>
   obtain ⟨σ3,H3,I3,n3⟩:=q3
   obtain ⟨m',hm,w3⟩:=hN σ3 H3 n3
   exact ⟨m',hm,σ3,H3,I3,w3⟩
  | brk => exact q3
  | ret v => exact q3
 | false =>
  rw [if_neg Bool.false_ne_true]
  exact wpAny_execs_nil ⟨σ1,H2,I2,q2⟩
end
structure It where
 go:Nat→Hp→Prop
 yld:Nat→Hp→V→Hp→Prop
 stop:Nat→Hp→Prop
def FpOk (X:Cx) (pins:List (Addr × Obj)) (H:Hp) (b:Addr):Prop :=
 H b = none∧b ≠ X.env.locals∧b ∉ X.fs∧(b ∈ X.ex ∨ X.s₀.heap.objs.size ≤ b)∧(∀ x c,X.env.cells.lookup x = some c→c ≠ b)∧∀ p ∈ X.pn ++ pins,p.1 ≠ b
theorem Zo.fpOk {X:Cx} {pins:List (Addr × Obj)} {σ:St} {H H':Hp} {s:Shared} {b:Addr} (I:Zo X pins σ H s) (hb:s.heap.objs.size ≤ b) (hn:H' b = none):FpOk X pins H' b:=by
 refine ⟨hn,Nat.ne_of_gt (Nat.lt_of_lt_of_le I.lt hb),I.nofs hb,.inr (Nat.le_trans I.sz hb),fun x c e z => ?_,fun p hp z => ?_⟩
 ·obtain ⟨v,q⟩:=I.cell x c e
  exact absurd (Nat.lt_of_lt_of_le q.lt (by rw [z]; exact hb)) (Nat.lt_irrefl _)
 ·exact absurd (Nat.lt_of_lt_of_le (Heap.lt_size (I.pin p hp).1) (by rw [z]; exact hb)) (Nat.lt_irrefl _)
structure Turn (P:Program) (w:World) (K:W.Frag) (tg:Expr) (J:It) (fp:List Addr) (it:Addr) (tn:Nat→Heap→Prop):Prop where
 mem:it ∈ fp
 obj:∀ i h,tn i h→∀ b ∈ fp,∃ o,h.get? b = some o∧∀ v,o.data ≠ .cell v
 keep:∀ i h h',tn i h→(∀ b ∈ fp,∀ o,h.get? b = some o→h'.get? b = some o)→tn i h'
 item:∀ (X:Cx),X.prog = P→X.w = w→X.K = K→X.calm = true→∀ (i:Nat) (pins:List (Addr × Obj)) (s:Shared) (σ:St) (H:Hp) (E:Value→Shared→Prop),Zo X pins σ H s→(∀ b ∈ fp,FpOk X pins H b)→tn i s.heap→J.go i H →
  wpAny (model P w) X.A (pyNext (.ref it)) (fun r s1 => ∃ u,r = some u ∧
   wpAny (model P w) X.A (letOwnedTupleGo tg (.ref it) u) (fun _ s2 => ∃ x H',Zo X pins σ H' s2∧Z6 x u∧J.yld i H x H'∧tn (i + 1) s2.heap∧∀ b ∈ fp,H' b = none) E s1) E s
 done:∀ (X:Cx),X.prog = P→X.w = w→X.K = K→X.calm = true→∀ (i:Nat) (pins:List (Addr × Obj)) (s:Shared) (σ:St) (H:Hp) (E:Value→Shared→Prop),Zo X pins σ H s→(∀ b ∈ fp,FpOk X pins H b)→tn i s.heap→J.stop i H →
  wpAny (model P w) X.A (pyNext (.ref it)) (fun r s1 => r = none∧Zo X pins σ H s1) E s
 self:∀ (A:Around) (i:Nat) (s:Shared) (Q:Value→Shared→Prop) (E:Value→Shared→Prop),tn i s.heap→Q (.ref it) s→wpAny (model P w) A (pyIter (.ref it)) Q E s
abbrev TI:=St→Hp→(It→Hp→Prop)→Prop
def PIE (X:Cx) (pins:List (Addr × Obj)) (σ:St) (tg:Expr) (R:It→Hp→Prop) (itv:Value) (s2:Shared):Prop :=
 ∃ (it:Addr) (fp:List Addr) (tn:Nat→Heap→Prop) (J:It) (H':Hp),itv = .ref it∧Zo X pins σ H' s2∧Turn X.prog X.w X.K tg J fp it tn∧tn 0 s2.heap∧(∀ b ∈ fp,FpOk X pins H' b)∧R J H'
def PI (X:Cx) (tg iter:Expr) (wi:TI):Prop :=
 ∀ (pins:List (Addr × Obj)) (s:Shared) (σ:St) (H:Hp) (R:It→Hp→Prop),Zo X pins σ H s→wi σ H R →
  wpAny (model X.prog X.w) X.A (eval iter X.env) (fun v s1 => wpAny (model X.prog X.w) X.A (pyIter v) (PIE X pins σ tg R) X.xe s1) X.xe s
theorem go_of {M:Model} {A:Around} {E:Value→Shared→Prop} {s:Shared} {tg:Expr} {it:Addr} {u:Value} {o:Obj} {n:String} {vs:Array Value} {Q:Unit→Shared→Prop} (ho:s.heap.get? it = some o) (hc:o.cls = .type n) (hd:o.data = .fields vs)
    (hn:["enumerate","zip","dict_itemiterator","dict_reverseitemiterator","odict_iterator","itertools.zip_longest","itertools.pairwise"].contains n = false) (hQ:Q () s):wpAny M A (letOwnedTupleGo tg (.ref it) u) Q E s:=by
  unfold letOwnedTupleGo
  cases tg <;> first
    | exact wpAny_pure hQ
    | (cases u <;> first
        | exact wpAny_pure hQ
        | (refine wpAny_bind (wpAny_load ho ?_)
           rw [hc,hd]
           show wpAny M A (if (["enumerate","zip","dict_itemiterator","dict_reverseitemiterator","odict_iterator","itertools.zip_longest","itertools.pairwise"].contains n && vs[0]? == some (rawInt _)) = true then _ else _) Q E s
           rw [if_neg (by intro h; rw [hn,Bool.false_and] at h; cases h)]
           exact wpAny_pure hQ))
def Itl (K:W.Frag) (a:Addr):It :=
 ⟨fun i H => ∃ xs x,Ym K H a xs∧xs[i]? = some x,fun i H x H' => H' = H∧∀ xs,Ym K H a xs→xs[i]? = some x,fun i H => ∃ xs,Ym K H a xs∧xs.length ≤ i⟩
def Itt (K:W.Frag) (a:Addr):It :=
 ⟨fun i H => ∃ xs x,Z9 K H a xs∧xs[i]? = some x,fun i H x H' => H' = H∧∀ xs,Z9 K H a xs→xs[i]? = some x,fun i H => ∃ xs,Z9 K H a xs∧xs.length ≤ i⟩
def Itr (lo:Int) (n:Nat):It:=⟨fun i _ => i < n,fun i H x H' => H' = H∧x = .int (lo + i),fun i _ => n ≤ i⟩
theorem turn_list {P:Program} {w:World} {K:W.Frag} {tg:Expr} (a it:Addr):Turn P w K tg (Itl K a) [it] it (fun i h => h.IsListIter it a i) where
 mem:=by simp
 obj:=fun i h st b hb => by
  have e:b = it:=by simpa using hb
  subst e
  obtain ⟨o,e,c,d⟩:=st
  exact ⟨o,e,fun v z => by rw [d] at z; cases z⟩
 keep:=fun i h h' st k => st.at fun o e => k it (by simp) o e
 item:=by
  intro X hP hw hK hc i pins s σ H E I hf st hg
  subst hP hw hK
  obtain ⟨xs,x,hq,hx⟩:=hg
  obtain ⟨its,rv,p,hz⟩:=I.list hq
  obtain ⟨u,hu,ru⟩:=rv.get hx
  obtain ⟨f0,f1,f2,f3,f4,f5⟩:=hf it (by simp)
  refine wpAny_pyNext_list_item st p.isList (x:=u) (by simpa using hu) fun h' st' sb => ?_
  have I1:Zo X pins σ H { s with heap:=h' }:=I.turned (t':=s.toks) (fun b o hb e => (sb.2 b hb).trans e) f0 f1 f3 f4 f5
  obtain ⟨o,e,c,d⟩:=id st'
  exact ⟨u,rfl,go_of (s:={ s with heap:=h' }) e c d (by decide) ⟨x,H,I1,ru,⟨rfl,fun ys hy => by rw [I.list_inj hy hq]; exact hx⟩,st',fun b hb => (hf b hb).1⟩⟩
 done:=by
  intro X hP hw hK hc i pins s σ H E I hf st hg
  subst hP hw hK
  obtain ⟨xs,hq,hx⟩:=hg
  obtain ⟨its,rv,p,hz⟩:=I.list hq
  obtain ⟨f0,f1,f2,f3,f4,f5⟩:=hf it (by simp)
  have hl:=rv.length
  exact wpAny_pyNext_list_end (I.ok.hd hc) st p.isList (by simp; omega) fun h' eb => ⟨rfl,I.turned (t':=s.toks) (fun b o hb e => eb b o hb e) f0 f1 f3 f4 f5⟩
 self:=fun _ _ _ _ _ st h => wpAny_pyIter_listiter st h
theorem turn_tuple {P:Program} {w:World} {K:W.Frag} {tg:Expr} (a it:Addr):Turn P w K tg (Itt K a) [it] it (fun i h => h.IsTupleIter it a i) where
 mem:=by simp
 obj:=fun i h st b hb => by
  have e:b = it:=by simpa using hb
  subst e
  obtain ⟨o,e,c,d⟩:=st
  exact ⟨o,e,fun v z => by rw [d] at z; cases z⟩
 keep:=fun i h h' st k => st.at fun o e => k it (by simp) o e
 item:=by
  intro X hP hw hK hc i pins s σ H E I hf st hg
  subst hP hw hK
  obtain ⟨xs,x,hq,hx⟩:=hg
  obtain ⟨its,rv,p,hz⟩:=I.tuple hq
  obtain ⟨u,hu,ru⟩:=rv.get hx
  obtain ⟨f0,f1,f2,f3,f4,f5⟩:=hf it (by simp)
  refine wpAny_pyNext_tuple_item st (show s.heap.IsTuple a its.toArray from p) (x:=u) (by simpa using hu) fun h' st' sb => ?_
  have I1:Zo X pins σ H { s with heap:=h' }:=I.turned (t':=s.toks) (fun b o hb e => (sb.2 b hb).trans e) f0 f1 f3 f4 f5
  obtain ⟨o,e,c,d⟩:=id st'
  exact ⟨u,rfl,go_of (s:={ s with heap:=h' }) e c d (by decide) ⟨x,H,I1,ru,⟨rfl,fun ys hy => by rw [I.tuple_inj hy hq]; exact hx⟩,st',fun b hb => (hf b hb).1⟩⟩
 done:=by
  intro X hP hw hK hc i pins s σ H E I hf st hg
  subst hP hw hK
  obtain ⟨xs,hq,hx⟩:=hg
  obtain ⟨its,rv,p,hz⟩:=I.tuple hq
  obtain ⟨f0,f1,f2,f3,f4,f5⟩:=hf it (by simp)
  have hl:=rv.length
  exact wpAny_pyNext_tuple_end (I.ok.hd hc) st (show s.heap.IsTuple a its.toArray from p) (by simp; omega) fun h' eb => ⟨rfl,I.turned (t':=s.toks) (fun b o hb e => eb b o hb e) f0 f1 f3 f4 f5⟩
 self:=fun _ _ _ _ _ st h => wpAny_pyIter_tupleiter st h
theorem turn_range {P:Program} {w:World} {K:W.Frag} {tg:Expr} (it:Addr) (lo:Int) (n:Nat):Turn P w K tg (Itr lo n) [it] it (fun i h => IsRangeIter h it (lo + (i:Nat) * 1) ((n:Int) - (i:Nat)) 1) where
 mem:=by simp
 obj:=fun i h st b hb => by
  have e:b = it:=by simpa using hb
  subst e
  exact ⟨_,st,fun v z => by
   have z':Data.fields _ = Data.cell v:=z
   cases z'⟩
 keep:=fun i h h' st k => k it (by simp) _ st
 item:=by
  intro X hP hw hK hc i pins s σ H E I hf st hg
  subst hP hw hK
  obtain ⟨f0,f1,f2,f3,f4,f5⟩:=hf it (by simp)
  have W:=Walks.range (prog:=X.prog) (w:=X.w) (I.ok.hd hc) it lo 1 n
  refine W.item i s _ _ hg st fun v h' tk hv st' kk => ?_
  obtain ⟨t,rfl⟩:=hv
  have I1:Zo X pins σ H { s with heap:=h',toks:=tk }:=I.turned (fun b o hb e => kk b o (by simpa using hb) e) f0 f1 f3 f4 f5
  refine ⟨_,rfl,go_of (s:={ s with heap:=h',toks:=tk }) (n:="range_iterator") st' rfl rfl (by decide) ⟨.int (lo + i),H,I1,⟨t, ?_⟩,⟨rfl,rfl⟩,st',fun b hb => (hf b hb).1⟩⟩
  rw [Int.mul_one]
 done:=by
  intro X hP hw hK hc i pins s σ H E I hf st hg
  subst hP hw hK
  obtain ⟨f0,f1,f2,f3,f4,f5⟩:=hf it (by simp)
  exact wpAny_pyNext_range_end (I.ok.hd hc) st (by have:n ≤ i:=hg; omega) fun h' eb => ⟨rfl,I.turned (t':=s.toks) (fun b o hb e => eb b o hb e) f0 f1 f3 f4 f5⟩
 self:=fun _ _ _ _ _ st h => wpAny_pyIter_rangeiter st h
section
variable {X:Cx} {tg:Expr}
def iList (K:W.Frag) (tl:TE):TI:=fun σ H R => tl σ H fun x H1 => ∃ a,x = .ref a∧(∃ xs,Ym K H1 a xs)∧R (Itl K a) H1
def iTup (K:W.Frag) (tl:TE):TI:=fun σ H R => tl σ H fun x H1 => ∃ a,x = .ref a∧(∃ xs,Z9 K H1 a xs)∧R (Itt K a) H1
theorem pi_list {l:Expr} {tl:TE} (hl:PE X l tl):PI X tg l (iList X.K tl):=by
 intro pins s σ H R I h
 refine Y9 (hl pins s σ H _ I h) fun v s1 ⟨x,H1,I1,r1,q1⟩ => ?_
 obtain ⟨a,e,⟨xs,hq⟩,q⟩:=q1
 subst e
 cases r1
 obtain ⟨its,rv,p,hz⟩:=I1.list hq
 refine wpAny_pyIter_list p.isList ?_
 refine ⟨s1.heap.objs.size,[s1.heap.objs.size],_,_,H1,rfl,I1.kept (t':=s1.toks) fun b o e => Heap.get?_push_of_some _ e,turn_list a _,⟨_,Heap.get?_push_size _ rfl,rfl,rfl⟩,fun b hb => ?_,q⟩
 have e:b = s1.heap.objs.size:=by simpa using hb
 subst e
 exact I1.fpOk (Nat.le_refl _) (I1.hok.fresh (Nat.le_refl _))
theorem pi_tup {l:Expr} {tl:TE} (hl:PE X l tl):PI X tg l (iTup X.K tl):=by
 intro pins s σ H R I h
 refine Y9 (hl pins s σ H _ I h) fun v s1 ⟨x,H1,I1,r1,q1⟩ => ?_
 obtain ⟨a,e,⟨xs,hq⟩,q⟩:=q1
 subst e
 cases r1
 obtain ⟨its,rv,p,hz⟩:=I1.tuple hq
 refine wpAny_pyIter_tuple (show s1.heap.IsTuple a its.toArray from p) ?_
 refine ⟨s1.heap.objs.size,[s1.heap.objs.size],_,_,H1,rfl,I1.kept (t':=s1.toks) fun b o e => Heap.get?_push_of_some _ e,turn_tuple a _,⟨_,Heap.get?_push_size _ rfl,rfl,rfl⟩,fun b hb => ?_,q⟩
 have e:b = s1.heap.objs.size:=by simpa using hb
 subst e
 exact I1.fpOk (Nat.le_refl _) (I1.hok.fresh (Nat.le_refl _))
theorem range_it {pins:List (Addr × Obj)} {σ:St} {H:Hp} {s:Shared} {R:It→Hp→Prop} {E:Value→Shared→Prop} {lo hi:Int} {t u v:Tok} {tk:Nat} (I:Zo X pins σ H s) (h1:-(2 ^ 62) ≤ lo) (h2:lo < 2 ^ 62) (h3:-(2 ^ 62) ≤ hi) (h4:hi < 2 ^ 62)
  (q:R (Itr lo (hi - lo).toNat) H):wpAny (model X.prog X.w) X.A (pyIter (.ref s.heap.objs.size)) (PIE X pins σ tg R) E { s with heap:=s.heap.push { cls:=.type "range",data:=.fields #[.int lo t,.int hi u,.int 1 v] },toks:=tk }:=by
 refine wpAny_pyIter_range (IsRange.new ..) (small_one h1 h2 h3 h4) ?_
 have I1:Zo X pins σ H { s with heap:=s.heap.push { cls:=.type "range",data:=.fields #[.int lo t,.int hi u,.int 1 v] },toks:=tk }:=I.kept fun b o e => Heap.get?_push_of_some _ e
 refine ⟨(s.heap.push { cls:=.type "range",data:=.fields #[.int lo t,.int hi u,.int 1 v] }).objs.size,[(s.heap.push { cls:=.type "range",data:=.fields #[.int lo t,.int hi u,.int 1 v] }).objs.size],_,_,H,rfl,
  I1.kept (t':=tk) fun b o e => Heap.get?_push_of_some _ e,turn_range _ lo (hi - lo).toNat, ?_,fun b hb => ?_,q⟩
 ·have e1:lo + ((0:Nat):Int) * 1 = lo:=by simp
  have e2:(((hi - lo).toNat:Nat):Int) - ((0:Nat):Int) = Builtin.Range.rangeSize lo hi 1:=by rw [rangeSize_one]; split <;> omega
  show IsRangeIter _ _ (lo + ((0:Nat):Int) * 1) ((((hi - lo).toNat:Nat):Int) - ((0:Nat):Int)) 1
  rw [e1,e2]
  exact Heap.get?_push_size _ rfl
 ·have e:b = (s.heap.push { cls:=.type "range",data:=.fields #[.int lo t,.int hi u,.int 1 v] }).objs.size:=by simpa using hb
  subst e
  exact I1.fpOk (Nat.le_refl _) (I1.hok.fresh (Nat.le_refl _))
def iRng1 (ta:TA):TI:=fun σ H R => ta σ H fun vs H1 => ∃ j:Int,vs = [.int j]∧-(2 ^ 62) ≤ j∧j < 2 ^ 62∧R (Itr 0 j.toNat) H1
theorem Vy {a:Expr} {ta:TA} {p pos:Pos} (hg:Gl X "range") (hm:X.mg "range" = none) (ha:PA X [a] ta) (hs:starEach [a] X.env = [(false,eval a X.env)]:=by rfl):PI X tg (.Call (.Name "range" p) [a] [] pos) (iRng1 ta):=by
 intro pins s σ H R I h
 refine Call_ (V7 I hg hm boot_range (callWith_type1 (Y9 (ha pos pins s σ H _ I h) fun us s1 ⟨vs,H1,I1,r1,q1⟩ => ?_) hs rfl))
 obtain ⟨j,e,q1,q2,q⟩:=q1
 subst e
 cases r1 with
 | cons r rr =>
  cases rr
  obtain ⟨t,rfl⟩:=r
  exact call_range_1 (range_it I1 (by omega) (by omega) q1 q2 (by simpa using q))
def tFor (wi:TI) (g:TG) (tb:TS):TS:=fun D σ H => wi σ H fun J H1 => ∃ W:Nat→Nat→St→Hp→Prop,(∃ m,W 0 m σ H1)∧∀ i m σ H,W i m σ H →
 (J.stop i H∧D.nx σ H) ∨ (J.go i H∧∃ N:St→Hp→Prop,(∀ σ' H',N σ' H'→∃ m',m' < m∧W (i + 1) m' σ' H')∧∀ x H',J.yld i H x H'→g x σ H' fun σ2 H2 => tb { D with nx:=N,ct:=N,bk:=D.nx } σ2 H2)
def pinsAt (fp:List Addr) (h:Heap):List (Addr × Obj):=fp.filterMap fun b => (h.get? b).map fun o => (b,o)
theorem mem_pinsAt {fp:List Addr} {h:Heap} {b:Addr} {o:Obj} (hb:b ∈ fp) (e:h.get? b = some o):(b,o) ∈ pinsAt fp h:=List.mem_filterMap.mpr ⟨b,hb,by rw [e]; rfl⟩
theorem of_pinsAt {fp:List Addr} {h:Heap} {p:Addr × Obj} (hp:p ∈ pinsAt fp h):p.1 ∈ fp∧h.get? p.1 = some p.2:=by
 obtain ⟨b,hb,e⟩:=List.mem_filterMap.mp hp
 cases q:h.get? b with
 | none => rw [q] at e; cases e
 | some o =>
  rw [q] at e
  have e':(b,o) = p:=Option.some.inj e
  subst e'
  exact ⟨hb,q⟩
theorem Zo.pinned {pins:List (Addr × Obj)} {σ:St} {H:Hp} {s:Shared} {fp:List Addr} (I:Zo X pins σ H s) (hf:∀ b ∈ fp,FpOk X pins H b) (ho:∀ b ∈ fp,∃ o,s.heap.get? b = some o∧∀ v,o.data ≠ .cell v):Zo X (pins ++ pinsAt fp s.heap) σ H s :=
 I.pins_of fun p hp => (List.mem_append.mp hp).elim (fun z => I.pin p (List.mem_append_right _ z)) fun z => by
  obtain ⟨hb,e⟩:=of_pinsAt z
  obtain ⟨f0,f1,f2,_⟩:=hf p.1 hb
  obtain ⟨o,e',d⟩:=ho p.1 hb
  rw [e] at e'; cases e'
  exact ⟨e,f0,f1,f2,d⟩
theorem Zo.unpinned {pins pl:List (Addr × Obj)} {σ:St} {H:Hp} {s:Shared} (I:Zo X (pins ++ pl) σ H s):Zo X pins σ H s:=I.pins_of fun p hp => I.pin p (List.mem_append_right _ (List.mem_append_left _ hp))
theorem ps_for {iter:Expr} {body:List Stmt} {wi:TI} {g:TG} {tb:TS} {pos:Pos} (hp:PassesOwn (model X.prog X.w) X.A X.env X.xe) (hc:X.calm = true) (hi:PI X tg iter wi) (hg:PG X tg g) (hb:PSs X body tb)
  (hs:∀ x,foldedSetIterable iter X.env x = pure x:=by intro _; rfl):PS X (.For tg iter body [] pos) (tFor wi g tb):=by
 intro pins s σ H D I h
 refine wpAny_For (Y9 (hi pins s σ H _ I h) fun v s1 h1 => Y9 h1 fun itv s2 h2 => ?_) hs
 obtain ⟨it,fp,tn,J,H2,e,I2,T,st2,f2,W,⟨m0,w0⟩,turn⟩:=h2
 subst e
 have stat:∀ {H':Hp},(∀ b ∈ fp,H' b = none)→∀ b ∈ fp,FpOk X pins H' b:=fun hn b hb => ⟨hn b hb,(f2 b hb).2⟩
 refine codeAny_forLoop_any (fun n s' => ∃ i σ' H',Zo X pins σ' H' s'∧tn i s'.heap∧(∀ b ∈ fp,H' b = none)∧W i n σ' H') ?_ m0 ⟨0,σ,H2,I2,st2,fun b hb => (f2 b hb).1,w0⟩
 rintro n s3 ⟨i,σ3,H3,I3,st3,fr3,w3⟩
 rcases turn i n σ3 H3 w3 with ⟨stop,qn⟩ | ⟨go,N,hN,step⟩
 ·refine wpAny_passesOwn hp (Y9 (T.done X rfl rfl rfl hc i pins s3 σ3 H3 X.xe I3 (stat fr3) st3 stop) fun r s4 ⟨hr,I4⟩ => ?_)
  subst hr
  exact wpAny_execs_nil ⟨σ3,H3,I4,qn⟩
 ·refine wpAny_passesOwn hp (Y9 (T.item X rfl rfl rfl hc i pins s3 σ3 H3 X.xe I3 (stat fr3) st3 go) fun r s4 ⟨u,hr,h4⟩ => ?_)
  subst hr
  refine wpAny_passesOwn hp (Y9 h4 fun _ s5 ⟨x,H5,I5,r5,y5,st5,fr5⟩ => ?_)
  have I5':=I5.pinned (stat fr5) (T.obj _ _ st5)
  refine wpAny_passesOwn hp (Y9 (hg _ s5 σ3 H5 x u _ I5' r5 (step x H5 y5)) fun _ s6 ⟨σ6,H6,I6,q6⟩ => ?_)
  refine wpAny_passesOwn hp (Y9 (hb _ s6 σ6 H6 _ I6 q6) fun f s7 q7 => ?_)
  have again:∀ {σ7:St} {H7:Hp},Zo X (pins ++ pinsAt fp s5.heap) σ7 H7 s7→N σ7 H7→∃ m,m < n∧∃ i σ' H',Zo X pins σ' H' s7∧tn i s7.heap∧(∀ b ∈ fp,H' b = none)∧W i m σ' H':=fun {σ7 H7} I7 n7 => by
   obtain ⟨m',hm,w7⟩:=hN σ7 H7 n7
   refine ⟨m',hm,i + 1,σ7,H7,I7.unpinned,T.keep _ _ _ st5 fun b hb o e => (I7.pin (b,o) (List.mem_append_right _ (List.mem_append_right _ (mem_pinsAt hb e)))).1,fun b hb => ?_,w7⟩
   obtain ⟨o,e,d⟩:=T.obj _ _ st5 b hb
   exact (I7.pin (b,o) (List.mem_append_right _ (List.mem_append_right _ (mem_pinsAt hb e)))).2.1
  cases f with
  | next => obtain ⟨σ7,H7,I7,n7⟩:=q7; exact again I7 n7
  | cont => obtain ⟨σ7,H7,I7,n7⟩:=q7; exact again I7 n7
  | brk => obtain ⟨σ7,H7,I7,q7⟩:=q7; exact ⟨σ7,H7,I7.unpinned,q7⟩
  | ret v => obtain ⟨x7,σ7,H7,I7,r7,q7⟩:=q7; exact ⟨x7,σ7,H7,I7.unpinned,r7,q7⟩
end
theorem for_list {K:W.Frag} {a:Addr} {xs:List V} {g:TG} {tb:TS} {D:Ends} {σ:St} {H:Hp} (Pv:Nat→St→Hp→Prop) (h0:Pv 0 σ H) (hl:∀ i σ H,i ≤ xs.length→Pv i σ H→Ym K H a xs)
  (hs:∀ i x σ H,xs[i]? = some x→Pv i σ H→g x σ H fun σ2 H2 => tb { D with nx:=Pv (i + 1),ct:=Pv (i + 1),bk:=D.nx } σ2 H2) (hd:∀ σ H,Pv xs.length σ H→D.nx σ H) :
  ∃ W:Nat→Nat→St→Hp→Prop,(∃ m,W 0 m σ H)∧∀ i m σ H,W i m σ H →
   ((Itl K a).stop i H∧D.nx σ H) ∨ ((Itl K a).go i H∧∃ N:St→Hp→Prop,(∀ σ' H',N σ' H'→∃ m',m' < m∧W (i + 1) m' σ' H')∧∀ x H',(Itl K a).yld i H x H'→g x σ H' fun σ2 H2 => tb { D with nx:=N,ct:=N,bk:=D.nx } σ2 H2):=by
 refine ⟨fun i m σ H => m = xs.length - i∧i ≤ xs.length∧Pv i σ H,⟨xs.length,by simp,Nat.zero_le _,h0⟩, ?_⟩
 rintro i m σ H ⟨rfl,hi,p⟩
 have q:=hl i σ H hi p
 by_cases hlt:i < xs.length
 ·refine .inr ⟨⟨xs,xs[i],q,by simp [hlt]⟩,Pv (i + 1),fun σ' H' p' => ⟨xs.length - (i + 1),by omega,rfl,hlt,p'⟩,fun x H' y => ?_⟩
  obtain ⟨e,y⟩:=y
  subst e
  exact hs i x σ _ (y xs q) p
 ·have e:i = xs.length:=by omega
  subst e
  exact .inl ⟨⟨xs,q,Nat.le_refl _⟩,hd σ H p⟩
theorem for_tup {K:W.Frag} {a:Addr} {xs:List V} {g:TG} {tb:TS} {D:Ends} {σ:St} {H:Hp} (Pv:Nat→St→Hp→Prop) (h0:Pv 0 σ H) (hl:∀ i σ H,i ≤ xs.length→Pv i σ H→Z9 K H a xs)
  (hs:∀ i x σ H,xs[i]? = some x→Pv i σ H→g x σ H fun σ2 H2 => tb { D with nx:=Pv (i + 1),ct:=Pv (i + 1),bk:=D.nx } σ2 H2) (hd:∀ σ H,Pv xs.length σ H→D.nx σ H) :
  ∃ W:Nat→Nat→St→Hp→Prop,(∃ m,W 0 m σ H)∧∀ i m σ H,W i m σ H →
   ((Itt K a).stop i H∧D.nx σ H) ∨ ((Itt K a).go i H∧∃ N:St→Hp→Prop,(∀ σ' H',N σ' H'→∃ m',m' < m∧W (i + 1) m' σ' H')∧∀ x H',(Itt K a).yld i H x H'→g x σ H' fun σ2 H2 => tb { D with nx:=N,ct:=N,bk:=D.nx } σ2 H2):=by
 refine ⟨fun i m σ H => m = xs.length - i∧i ≤ xs.length∧Pv i σ H,⟨xs.length,by simp,Nat.zero_le _,h0⟩, ?_⟩
 rintro i m σ H ⟨rfl,hi,p⟩
 have q:=hl i σ H hi p
 by_cases hlt:i < xs.length
 ·refine .inr ⟨⟨xs,xs[i],q,by simp [hlt]⟩,Pv (i + 1),fun σ' H' p' => ⟨xs.length - (i + 1),by omega,rfl,hlt,p'⟩,fun x H' y => ?_⟩
  obtain ⟨e,y⟩:=y
  subst e
  exact hs i x σ _ (y xs q) p
 ·have e:i = xs.length:=by omega
  subst e
  exact .inl ⟨⟨xs,q,Nat.le_refl _⟩,hd σ H p⟩
theorem for_range {lo:Int} {n:Nat} {g:TG} {tb:TS} {D:Ends} {σ:St} {H:Hp} (Pv:Nat→St→Hp→Prop) (h0:Pv 0 σ H)
  (hs:∀ i σ H,i < n→Pv i σ H→g (.int (lo + i)) σ H fun σ2 H2 => tb { D with nx:=Pv (i + 1),ct:=Pv (i + 1),bk:=D.nx } σ2 H2) (hd:∀ σ H,Pv n σ H→D.nx σ H) :
  ∃ W:Nat→Nat→St→Hp→Prop,(∃ m,W 0 m σ H)∧∀ i m σ H,W i m σ H →
   ((Itr lo n).stop i H∧D.nx σ H) ∨ ((Itr lo n).go i H∧∃ N:St→Hp→Prop,(∀ σ' H',N σ' H'→∃ m',m' < m∧W (i + 1) m' σ' H')∧∀ x H',(Itr lo n).yld i H x H'→g x σ H' fun σ2 H2 => tb { D with nx:=N,ct:=N,bk:=D.nx } σ2 H2):=by
 refine ⟨fun i m σ H => m = n - i∧i ≤ n∧Pv i σ H,⟨n,by simp,Nat.zero_le _,h0⟩, ?_⟩
 rintro i m σ H ⟨rfl,hi,p⟩
 by_cases hlt:i < n
 ·refine .inr ⟨hlt,Pv (i + 1),fun σ' H' p' => ⟨n - (i + 1),by omega,rfl,hlt,p'⟩,fun x H' y => ?_⟩
  obtain ⟨e,y⟩:=y
  subst e y
  exact hs i σ _ hlt p
 ·have e:i = n:=by omega
  subst e
  exact .inl ⟨Nat.le_refl _,hd σ H p⟩
theorem while_by {c:TT} {tb:TS} {D:Ends} {σ:St} {H:Hp} (Pv:St→Hp→Prop) (μ:St→Hp→Nat) (h0:Pv σ H)
  (hs:∀ σ H,Pv σ H→c σ H fun b H1 => if b = true then tb { D with nx:=fun σ' H' => Pv σ' H'∧μ σ' H' < μ σ H,ct:=fun σ' H' => Pv σ' H'∧μ σ' H' < μ σ H,bk:=D.nx } σ H1 else D.nx σ H1)
  (mono:∀ σ H Q Q',(∀ b H1,Q b H1→Q' b H1)→c σ H Q→c σ H Q'):tWhile c tb D σ H:=by
 refine ⟨fun m σ H => m = μ σ H∧Pv σ H,⟨_,rfl,h0⟩, ?_⟩
 rintro m σ H ⟨rfl,p⟩
 refine mono σ H _ _ (fun b H1 q => ?_) (hs σ H p)
 cases b with
 | true => exact ⟨_,fun σ' H' ⟨p',l⟩ => ⟨_,l,rfl,p'⟩,q⟩
 | false => exact q
abbrev R2:=V→V→Hp→VK→Prop
def OpR (X:Cx) (f:Value→Value→Sem Value) (r:R2):Prop :=
 ∀ (pins:List (Addr × Obj)) (s:Shared) (σ:St) (H:Hp) (x y:V) (v u:Value) (Q:VK),Zo X pins σ H s→Z6 x v→Z6 y u→r x y H Q →
  wpAny (model X.prog X.w) X.A (f v u) (EP X pins σ Q) X.xe s
def UnR (X:Cx) (f:Value→Sem Value) (r:V→Hp→VK→Prop):Prop :=
 ∀ (pins:List (Addr × Obj)) (s:Shared) (σ:St) (H:Hp) (x:V) (v:Value) (Q:VK),Zo X pins σ H s→Z6 x v→r x H Q →
  wpAny (model X.prog X.w) X.A (f v) (EP X pins σ Q) X.xe s
def CallR (X:Cx) (f:Value) (r:List V→Hp→VK→Prop):Prop :=
 ∀ (pins:List (Addr × Obj)) (s:Shared) (σ:St) (H:Hp) (xs:List V) (us:List Value) (Q:VK),Zo X pins σ H s→Z2 xs us→r xs H Q →
  wpAny (model X.prog X.w) X.A (call f us) (EP X pins σ Q) X.xe s
def tOp (r:R2) (ta tb:TE):TE:=fun σ H Q => ta σ H fun x H1 => tb σ H1 fun y H2 => r x y H2 Q
def tUn (r:V→Hp→VK→Prop) (ta:TE):TE:=fun σ H Q => ta σ H fun x H1 => r x H1 Q
def rI (C:Int→Int→Prop) (g:Int→Int→V):R2:=fun x y H Q => ∃ i j,x = .int i∧y = .int j∧C i j∧Q (g i j) H
def rI0 (g:Int→Int→V):R2:=fun x y H Q => ∃ i j,x = .int i∧y = .int j∧Q (g i j) H
def rU (g:Int→V):V→Hp→VK→Prop:=fun x H Q => ∃ i,x = .int i∧Q (g i) H
section
variable {X:Cx} {a b c:Expr} {ta tb tc:TE} {pos:Pos}
theorem binT (ha:PE X a ta) (hb:PE X b tb) {pins:List (Addr × Obj)} {s:Shared} {σ:St} {H:Hp} {R:V→V→Hp→Prop} (I:Zo X pins σ H s)
  (h:ta σ H fun x H1 => tb σ H1 fun y H2 => R x y H2) {Q:Value→Shared→Prop} {f:Value→Value→Sem Value}
  (hf:∀ v u s2 x y H2,Zo X pins σ H2 s2→Z6 x v→Z6 y u→R x y H2→wpAny (model X.prog X.w) X.A (f v u) Q X.xe s2) :
  wpAny (model X.prog X.w) X.A (eval a X.env) (fun v s₁ => wpAny (model X.prog X.w) X.A (eval b X.env) (fun u s₂ => wpAny (model X.prog X.w) X.A (f v u) Q X.xe s₂) X.xe s₁) X.xe s:=by
 refine Y9 (ha pins s σ H _ I h) fun v s1 ⟨x,H1,I1,r1,q1⟩ => ?_
 refine Y9 (hb pins s1 σ H1 _ I1 q1) fun u s2 ⟨y,H2,I2,r2,q2⟩ => ?_
 exact hf v u s2 x y H2 I2 r1 r2 q2
theorem Zf {op:Operator} {r:R2} (ho:OpR X (binaryOp op) r) (ha:PE X a ta) (hb:PE X b tb):PE X (.BinOp a op b pos) (tOp r ta tb):=by
 intro pins s σ H Q I h
 exact wpAny_BinOp (binT ha hb I h fun v u s2 x y H2 I2 rx ry q => ho pins s2 σ H2 x y v u Q I2 rx ry q)
theorem pe_un {op:UnaryOp} {r:V→Hp→VK→Prop} (ho:UnR X (unaryOp op) r) (ha:PE X a ta):PE X (.UnaryOp op a pos) (tUn r ta):=by
 intro pins s σ H Q I h
 exact UnaryOp_ (Y9 (ha pins s σ H _ I h) fun v s1 ⟨x,H1,I1,r1,q1⟩ => ho pins s1 σ H1 x v Q I1 r1 q1)
theorem opI {f:Value→Value→Sem Value} {C:Int→Int→Prop} {g:Int→Int→Int}
  (rule:∀ (i j:Int) (t u:Tok) (s:Shared) (Q:Value→Shared→Prop) (E:Value→Shared→Prop),C i j→Q (.int (g i j) s.toks) { s with toks:=s.toks + 1 }→wpAny (model X.prog X.w) X.A (f (.int i t) (.int j u)) Q E s) :
  OpR X f (rI C fun i j => .int (g i j)):=by
 intro pins s σ H x y v u Q I rx ry h
 obtain ⟨i,j,rfl,rfl,hc,q⟩:=h
 obtain ⟨t,rfl⟩:=rx
 obtain ⟨t',rfl⟩:=ry
 exact rule i j t t' s _ _ hc ⟨.int (g i j),H,I.tok _,⟨_,rfl⟩,q⟩
theorem opI0 {f:Value→Value→Sem Value} {g:Int→Int→Int}
  (rule:∀ (i j:Int) (t u:Tok) (s:Shared) (Q:Value→Shared→Prop) (E:Value→Shared→Prop),Q (.int (g i j) s.toks) { s with toks:=s.toks + 1 }→wpAny (model X.prog X.w) X.A (f (.int i t) (.int j u)) Q E s) :
  OpR X f (rI0 fun i j => .int (g i j)):=by
 intro pins s σ H x y v u Q I rx ry h
 obtain ⟨i,j,rfl,rfl,q⟩:=h
 obtain ⟨t,rfl⟩:=rx
 obtain ⟨t',rfl⟩:=ry
 exact rule i j t t' s _ _ ⟨.int (g i j),H,I.tok _,⟨_,rfl⟩,q⟩
theorem opB0 {f:Value→Value→Sem Value} {g:Int→Int→Bool}
  (rule:∀ (i j:Int) (t u:Tok) (s:Shared) (Q:Value→Shared→Prop) (E:Value→Shared→Prop),Q (.bool (g i j)) s→wpAny (model X.prog X.w) X.A (f (.int i t) (.int j u)) Q E s) :
  OpR X f (rI0 fun i j => .bl (g i j)):=by
 intro pins s σ H x y v u Q I rx ry h
 obtain ⟨i,j,rfl,rfl,q⟩:=h
 obtain ⟨t,rfl⟩:=rx
 obtain ⟨t',rfl⟩:=ry
 exact rule i j t t' s _ _ ⟨.bl (g i j),H,I,rfl,q⟩
def CDiv (i j:Int):Prop:=0 < j∧j < 1073741824
def CPow (i j:Int):Prop:=0 ≤ j∧j ≤ 1000000∧i.natAbs < 2 ^ 64
def CMul (i j:Int):Prop:=(-(2 ^ 64) < i∧i < 2 ^ 64) ∨ (-(2 ^ 64) < j∧j < 2 ^ 64)
theorem CMul.ok {i j:Int} (h:CMul i j):IntMulOk i j:=by
 rcases h with ⟨h1,h2⟩ | ⟨h1,h2⟩
 ·exact .of_left (intBits_le_64 h1 h2)
 ·exact .of_right (intBits_le_64 h1 h2)
theorem Z1:OpR X (binaryOp .Add) (rI0 fun i j => .int (i + j)):=opI0 fun _ _ _ _ _ _ _ q => add_int q
theorem Ug:OpR X (binaryOp .Sub) (rI0 fun i j => .int (i - j)):=opI0 fun _ _ _ _ _ _ _ q => sub_int q
theorem Vp:OpR X (binaryOp .Mult) (rI CMul fun i j => .int (i * j)):=opI fun _ _ _ _ _ _ _ hc q => mul_int q hc.ok
theorem op_fdiv:OpR X (binaryOp .FloorDiv) (rI CDiv fun i j => .int (i / j)):=opI fun i j _ _ _ _ _ hc q => by
 have h1:(0:Int) < j:=hc.1
 have h2:j < 1073741824:=hc.2
 exact floordiv_int (by omega) (by rw [Int.fdiv_eq_ediv_of_nonneg i (by omega)]; exact q) (.inl (PyProof.noPylong_small (by omega)))
theorem Vu:OpR X (binaryOp .Mod) (rI (fun _ j => 0 < j) fun i j => .int (i % j)):=opI fun i j _ _ _ _ _ hc q => by
 have h1:(0:Int) < j:=hc
 exact mod_int' (by omega) (by rw [Int.fmod_eq_emod_of_nonneg i (by omega)]; exact q)
theorem op_pow:OpR X (binaryOp .Pow) (rI CPow fun i j => .int (i ^ j.toNat)):=opI fun _ _ _ _ _ _ _ hc q => pow_int_small hc.1 hc.2.1 hc.2.2 q
theorem unI {f:Value→Sem Value} {g:Int→Int}
  (rule:∀ (i:Int) (t:Tok) (s:Shared) (Q:Value→Shared→Prop) (E:Value→Shared→Prop),Q (.int (g i) s.toks) { s with toks:=s.toks + 1 }→wpAny (model X.prog X.w) X.A (f (.int i t)) Q E s) :
  UnR X f (rU fun i => .int (g i)):=by
 intro pins s σ H x v Q I rx h
 obtain ⟨i,rfl,q⟩:=h
 obtain ⟨t,rfl⟩:=rx
 exact rule i t s _ _ ⟨.int (g i),H,I.tok _,⟨_,rfl⟩,q⟩
theorem un_neg:UnR X (unaryOp .USub) (rU fun i => .int (-i)):=unI fun _ _ _ _ _ q => neg_int q
end
def scal:V→V→Bool
 | .non,.non => true | .non,.int _ => true | .int _,.non => true | .non,.bl _ => true | .bl _,.non => true | .non,.str _ => true | .str _,.non => true
 | .int _,.int _ => true | .bl _,.bl _ => true | .str _,.str _ => true | .byt _,.byt _ => true
 | .int _,.str _ => true | .str _,.int _ => true | .bl _,.str _ => true | .str _,.bl _ => true
 | _,_ => false
def rEq:R2:=fun x y H Q => scal x y = true∧Q (.bl (decide (x = y))) H
def rNe:R2:=fun x y H Q => scal x y = true∧Q (.bl (!decide (x = y))) H
theorem dec_int {i j:Int}:decide (V.int i = V.int j) = (i == j):=by
 rw [Bool.eq_iff_iff]
 simp
theorem dec_bl {i j:Bool}:decide (V.bl i = V.bl j) = (i == j):=by
 rw [Bool.eq_iff_iff]
 simp
theorem dec_str {i j:Str}:decide (V.str i = V.str j) = (i == j):=by
 rw [Bool.eq_iff_iff]
 simp
theorem dec_byt {i j:Array UInt8}:decide (V.byt i = V.byt j) = (i.toList == j.toList):=by
 rw [Bool.eq_iff_iff]
 cases i
 cases j
 simp
section
variable {X:Cx} {a b c:Expr} {ta tb tc:TE} {pos:Pos}
theorem Yb {pins:List (Addr × Obj)} {σ:St} {H:Hp} {s:Shared} {Q:VK} {k k':Bool} (I:Zo X pins σ H s) (q:Q (.bl k) H) (e:k = k'):EP X pins σ Q (.bool k') s:=by
 subst e
 exact ⟨.bl k,H,I,rfl,q⟩
theorem Yf:OpR X (compareOp .Eq) rEq:=by
 intro pins s σ H x y v u Q I rx ry h
 obtain ⟨hs,q⟩:=h
 cases x with
 | non =>
  cases rx
  cases y with
  | non => cases ry; exact PySem.EqNone.eq_none_none (Yb I q (by simp))
  | bl j => cases ry; exact PySem.EqNone.eq_none_bool (Yb I q (by simp))
  | int j => obtain ⟨t',rfl⟩:=ry; exact PySem.EqNone.eq_none_int (Yb I q (by simp))
  | str j => obtain ⟨t',rfl⟩:=ry; exact PySem.EqNone.eq_none_str (Yb I q (by simp))
  | _ => exact absurd (show false = true from hs) Bool.false_ne_true
 | bl i =>
  cases rx
  cases y with
  | non => cases ry; exact PySem.EqNone.eq_bool_none (Yb I q (by simp))
  | bl j => cases ry; exact eq_bool (Yb I q dec_bl)
  | str j => obtain ⟨t',rfl⟩:=ry; exact PySem.EqMixed.eq_bool_str (Yb I q (by simp))
  | _ => exact absurd (show false = true from hs) Bool.false_ne_true
 | int i =>
  obtain ⟨t,rfl⟩:=rx
  cases y with
  | non => cases ry; exact PySem.EqNone.eq_int_none (Yb I q (by simp))
  | int j => obtain ⟨t',rfl⟩:=ry; exact eq_int (Yb I q dec_int)
  | str j => obtain ⟨t',rfl⟩:=ry; exact PySem.EqMixed.eq_int_str (Yb I q (by simp))
  | _ => exact absurd (show false = true from hs) Bool.false_ne_true
 | str i =>
  obtain ⟨t,rfl⟩:=rx
  cases y with
  | non => cases ry; exact PySem.EqNone.eq_str_none (Yb I q (by simp))
  | bl j => cases ry; exact PySem.EqMixed.eq_str_bool (Yb I q (by simp))
  | int j => obtain ⟨t',rfl⟩:=ry; exact PySem.EqMixed.eq_str_int (Yb I q (by simp))
  | str j => obtain ⟨t',rfl⟩:=ry; exact eq_str (Yb I q dec_str)
  | _ => exact absurd (show false = true from hs) Bool.false_ne_true
 | byt i =>
  obtain ⟨t,rfl⟩:=rx
  cases y with
  | byt j => obtain ⟨t',rfl⟩:=ry; exact W.eq_bytes (Yb I q dec_byt)
  | _ => exact absurd (show false = true from hs) Bool.false_ne_true
 | _ => cases y <;> exact absurd (show false = true from hs) Bool.false_ne_true
theorem op_ne:OpR X (compareOp .NotEq) rNe:=by
 intro pins s σ H x y v u Q I rx ry h
 obtain ⟨hs,q⟩:=h
 cases x with
 | non =>
  cases rx
  cases y with
  | non => cases ry; exact PySem.EqNone.ne_none_none (Yb I q (by simp))
  | bl j => cases ry; exact PySem.EqNone.ne_none_bool (Yb I q (by simp))
  | int j => obtain ⟨t',rfl⟩:=ry; exact PySem.EqNone.ne_none_int (Yb I q (by simp))
  | str j => obtain ⟨t',rfl⟩:=ry; exact PySem.EqNone.ne_none_str (Yb I q (by simp))
  | _ => exact absurd (show false = true from hs) Bool.false_ne_true
 | bl i =>
  cases rx
  cases y with
  | non => cases ry; exact PySem.EqNone.ne_bool_none (Yb I q (by simp))
  | bl j => cases ry; exact ne_bool (Yb I q (congrArg not dec_bl))
  | str j => obtain ⟨t',rfl⟩:=ry; exact PySem.EqMixed.ne_bool_str (Yb I q (by simp))
  | _ => exact absurd (show false = true from hs) Bool.false_ne_true
 | int i =>
  obtain ⟨t,rfl⟩:=rx
  cases y with
  | non => cases ry; exact PySem.EqNone.ne_int_none (Yb I q (by simp))
  | int j => obtain ⟨t',rfl⟩:=ry; exact ne_int (Yb I q (congrArg not dec_int))
  | str j => obtain ⟨t',rfl⟩:=ry; exact PySem.EqMixed.ne_int_str (Yb I q (by simp))
  | _ => exact absurd (show false = true from hs) Bool.false_ne_true
 | str i =>
  obtain ⟨t,rfl⟩:=rx
  cases y with
  | non => cases ry; exact PySem.EqNone.ne_str_none (Yb I q (by simp))
  | bl j => cases ry; exact PySem.EqMixed.ne_str_bool (Yb I q (by simp))
  | int j => obtain ⟨t',rfl⟩:=ry; exact PySem.EqMixed.ne_str_int (Yb I q (by simp))
  | str j => obtain ⟨t',rfl⟩:=ry; exact ne_str (Yb I q (congrArg not dec_str))
  | _ => exact absurd (show false = true from hs) Bool.false_ne_true
 | byt i =>
  obtain ⟨t,rfl⟩:=rx
  cases y with
  | byt j => obtain ⟨t',rfl⟩:=ry; exact W.ne_bytes (Yb I q (congrArg not dec_byt))
  | _ => exact absurd (show false = true from hs) Bool.false_ne_true
 | _ => cases y <;> exact absurd (show false = true from hs) Bool.false_ne_true
theorem op_lt:OpR X (compareOp .Lt) (rI0 fun i j => .bl (decide (i < j))):=opB0 fun _ _ _ _ _ _ _ q => lt_int q
theorem op_le:OpR X (compareOp .LtE) (rI0 fun i j => .bl (decide (i ≤ j))):=opB0 fun _ _ _ _ _ _ _ q => le_int q
theorem op_gt:OpR X (compareOp .Gt) (rI0 fun i j => .bl (decide (j < i))):=opB0 fun _ _ _ _ _ _ _ q => gt_int q
theorem op_ge:OpR X (compareOp .GtE) (rI0 fun i j => .bl (decide (j ≤ i))):=opB0 fun _ _ _ _ _ _ _ q => ge_int q
theorem op_isN:OpR X (compareOp .Is) (fun x y H Q => y = .non∧Q (.bl (decide (x = .non))) H):=by
 intro pins s σ H x y v u Q I rx ry h
 obtain ⟨rfl,q⟩:=h
 cases ry
 refine is_none_gen (Yb I q ?_)
 cases x <;> first
  | (cases rx; rfl)
  | (obtain ⟨t,rfl⟩:=rx; rfl)
theorem Zt (b:Expr) {op:CmpOp} (h:op ≠ .In:=by decide) (h2:op ≠ .NotIn:=by decide):behindInMarks op b = false:=by
 have e1:(op == CmpOp.In) = false:=by cases op <;> first | rfl | exact absurd rfl h
 have e2:(op == CmpOp.NotIn) = false:=by cases op <;> first | rfl | exact absurd rfl h2
 cases b <;> simp [behindInMarks,e1,e2]
theorem Vb {op:CmpOp} {r:R2} (ho:OpR X (compareOp op) r) (ha:PE X a ta) (hb:PE X b tb) (hm:behindInMarks op b = false):PE X (.Compare a [op] [b] pos) (tOp r ta tb):=by
 intro pins s σ H Q I h
 exact wpAny_Compare1 (binT ha hb I h fun v u s2 x y H2 I2 rx ry q => ho pins s2 σ H2 x y v u Q I2 rx ry q) hm
def tTest (t:TE):TT:=fun σ H Q => t σ H fun x H' => ∃ k,x = .bl k∧Q k H'
theorem Zm {op:CmpOp} {r:R2} (ho:OpR X (compareOp op) r) (ha:PE X a ta) (hb:PE X b tb) (hm:behindInMarks op b = false):PT X (.Compare a [op] [b] pos) (tTest (tOp r ta tb)):=by
 intro pins s σ H Q I h
 refine wpAny_isTrue_Compare1 (Y9 (ha pins s σ H _ I h) fun v s1 ⟨x,H1,I1,r1,q1⟩ => Y9 (hb pins s1 σ H1 _ I1 q1) fun u s2 ⟨y,H2,I2,r2,q2⟩ =>
  Y9 (ho pins s2 σ H2 x y v u _ I2 r1 r2 q2) fun c s3 ⟨z,H3,I3,r3,k,e,q3⟩ => ?_) hm
 subst e
 cases r3
 exact wpAny_truthy_bool ⟨H3,I3,q3⟩
def tChain (r r':R2) (ta tb tc:TE):TE:=fun σ H Q => ta σ H fun x H1 => tb σ H1 fun y H2 => r x y H2 fun z H3 => ∃ k,z = .bl k ∧
 (if k = true then tc σ H3 fun w' H4 => r' y w' H4 Q else Q (.bl false) H3)
theorem pe_chain {op op':CmpOp} {r r':R2} (ho:OpR X (compareOp op) r) (ho':OpR X (compareOp op') r') (ha:PE X a ta) (hb:PE X b tb) (hc:PE X c tc)
  (hm:lastMarks [op,op'] [b,c] = false:=by with_unfolding_all rfl):PE X (.Compare a [op,op'] [b,c] pos) (tChain r r' ta tb tc):=by
 intro pins s σ H Q I h
 refine Compare_chain (Y9 (ha pins s σ H _ I h) fun v s1 ⟨x,H1,I1,r1,q1⟩ => chain_link (Y9 (hb pins s1 σ H1 _ I1 q1) fun u s2 ⟨y,H2,I2,r2,q2⟩ =>
  Y9 (ho pins s2 σ H2 x y v u _ I2 r1 r2 q2) fun d s3 ⟨z,H3,I3,r3,k,e,q3⟩ => ?_)) hm
 subst e
 cases r3
 refine wpAny_truthy_bool ?_
 cases k with
 | false => exact ite_ff ⟨.bl false,H3,I3,rfl,q3⟩
 | true => exact ite_tt (chain_last (Y9 (hc pins s3 σ H3 _ I3 q3) fun w' s4 ⟨z',H4,I4,r4,q4⟩ => ho' pins s4 σ H4 y z' u w' Q I4 r2 r4 q4))
theorem line63:(sizeLine:Nat) < 2 ^ 63:=by rw [sizeLine_eq]; decide
theorem op_add_str:OpR X (binaryOp .Add) (fun x y H Q => ∃ i j,x = .str i∧y = .str j∧i.length + j.length ≤ sizeLine∧Q (.str (i ++ j)) H):=by
 intro pins s σ H x y v u Q I rx ry h
 obtain ⟨i,j,rfl,rfl,hz,q⟩:=h
 obtain ⟨t,rfl⟩:=rx
 obtain ⟨t',rfl⟩:=ry
 exact add_str (fun t' tk => ⟨.str (i ++ j),H,I.tok _,⟨_,rfl⟩,q⟩) hz
theorem vals1 {x:V} {us:List Value} (r:Z2 [x] us):∃ u,us = [u]∧Z6 x u:=by
 cases r with
 | cons r1 r2 => cases r2; exact ⟨_,rfl,r1⟩
theorem vals2 {x y:V} {us:List Value} (r:Z2 [x,y] us):∃ u w',us = [u,w']∧Z6 x u∧Z6 y w':=by
 cases r with
 | cons r1 r2 =>
  cases r2 with
  | cons r3 r4 => cases r4; exact ⟨_,_,rfl,r1,r3⟩
theorem call_max2 (hc:X.calm = true):CallR X (.builtin "max") (fun xs H Q => ∃ i j,xs = [.int i,.int j]∧Q (.int (if j > i then j else i)) H):=by
 intro pins s σ H xs us Q I r h
 obtain ⟨i,j,rfl,q⟩:=h
 obtain ⟨u,w',rfl,⟨t,rfl⟩,⟨t',rfl⟩⟩:=vals2 r
 refine max_two_ints (I.ok.hd hc) fun h' tk k => ⟨_,H,I.kept k, ?_,q⟩
 by_cases hj:j > i
 ·rw [if_pos hj,if_pos hj]; exact ⟨_,rfl⟩
 ·rw [if_neg hj,if_neg hj]; exact ⟨_,rfl⟩
theorem call_int1:CallR X (.type "int") (fun xs H Q => (∃ i,xs = [.int i]∧Q (.int i) H) ∨ ∃ k,xs = [.bl k]∧Q (.int (if k then 1 else 0)) H):=by
 intro pins s σ H xs us Q I r h
 rcases h with ⟨i,rfl,q⟩ | ⟨k,rfl,q⟩
 ·obtain ⟨u,rfl,t,rfl⟩:=vals1 r
  exact call_int_int ⟨.int i,H,I,⟨_,rfl⟩,q⟩
 ·obtain ⟨u,rfl,r1⟩:=vals1 r
  cases r1
  exact call_int_bool ⟨.int (if k then 1 else 0),H,I.tok _,⟨_,rfl⟩,q⟩
theorem call_ord:CallR X (.builtin "ord") (fun xs H Q => ∃ x,xs = [.str x]∧x.length = 1∧Q (.int (x.cps.getD 0 0:Nat)) H):=by
 intro pins s σ H xs us Q I r h
 obtain ⟨x,rfl,hz,q⟩:=h
 obtain ⟨u,rfl,t,rfl⟩:=vals1 r
 exact ord_of_one hz ⟨.int _,H,I.tok _,⟨_,rfl⟩,q⟩
end
structure ObjM (h:Heap) (x dx C:Addr) (mA:Str→Option Value):Prop where
 obj:h.get? x = some (W.instObj C dx)
 ns:h.Ns1 dx mA
 ne:dx ≠ x
theorem lookIn_ns {h:Heap} {dx:Addr} {mA:Str→Option Value} (n:h.Ns1 dx mA):∃ od,h.get? dx = some od∧∀ name,W.lookIn name od = some (mA name):=by
 obtain ⟨o,es,ep,ho,hd,hk,_,hm⟩:=n
 refine ⟨o,ho,fun name => ?_⟩
 have e:=hm name
 unfold nsFind findBy at e
 rw [← Array.find?_toList] at e
 unfold W.lookIn
 rw [hd]
 dsimp only
 split
 ·rename_i y q
  rw [q] at e
  exact congrArg some e
 ·rename_i q
  rw [q] at e
  have a:es.toList.any (·.refKey) = false:=by
   rw [List.any_eq_false]
   intro y hy
   obtain ⟨z,t,hkey⟩:=hk y (Array.mem_toList_iff.mp hy)
   simp [DictEntry.refKey,hkey]
  have a':¬ es.toList.any (·.refKey) = true:=by rw [a]; exact Bool.false_ne_true
  rw [if_neg a']
  exact congrArg some e
theorem ObjM.look {h:Heap} {x dx C:Addr} {mA:Str→Option Value} (I:ObjM h x dx C mA):∃ od,W.InstAt h x (W.instObj C dx) C (some od)∧∀ name,W.lookIn name od = some (mA name) :=
 let ⟨od,ho,hl⟩:=lookIn_ns I.ns
 ⟨od,⟨I.obj,rfl,rfl,ho⟩,hl⟩
section
variable {prog:Program} {w:World} {A:Around} {E:Value→Shared→Prop} {s:Shared} {K:W.Frag} {x dx C f:Addr} {mA:Str→Option Value} {name:Str} {v:Value}
theorem get_map {expr:Bool} {Q:Value→Shared→Prop} (X:K.In s.heap) (I:ObjM s.heap x dx C mA) (hg:W.plainGet K C name = true) (hh:W.hasDictIn K C = true)
  (ha:W.findIn K (.ref C) name = some none) (hv:mA name = some v) (hv':W.handedIn v = true) (h:Q v { s with toks:=s.toks + 1 }) :
  wpAny (model prog w) A (getAttr (.ref x) name expr) Q E s:=by
 obtain ⟨od,J,hl⟩:=I.look
 exact W.get_value X J (W.plainGet_of hg).1 (W.findObj_own hh ha rfl (by rw [hl,hv])) hv' h
theorem get_meth {pl:Sem Bool} {Q:Value × List Value→Shared→Prop} (X:K.In s.heap) (I:ObjM s.heap x dx C mA) (hg:W.plainGet K C name = true)
  (hf:W.findIn K (.ref C) name = some (some (.ref f))) (ht:W.isFn K (.ref f) = true) (hv:mA name = none) (h:Q (.ref f,[.ref x]) s) :
  wpAny (model prog w) A (getMethod (.ref x) name pl) Q E s:=by
 obtain ⟨od,J,hl⟩:=I.look
 exact W.method_fn X J (W.plainGet_of hg).1 (W.plainGet_of hg).2 hf (beq_iff_eq.mp ht) (by show (W.lookIn name od).map (·.isSome) = some false; rw [hl,hv]; rfl) h
theorem set_map {ns:List Str} {Q:Unit→Shared→Prop} (X:K.In s.heap) (I:ObjM s.heap x dx C mA)
  (hs:W.findIn K (.ref C) "__setattr__" = some (some (.builtin "object.__setattr__"))) (hp:W.plainOver K C = true) (ht:W.takerIn K C name = some none) (hh:W.hasDictIn K C = true)
  (hw:PySem.Within mA ns) (hsz:ns.length ≤ sizeLine)
  (h:∀ h',ObjM h' x dx C (fun y => if y = name then some v else mA y)→Heap.SameBut dx s.heap h'→Q () { s with heap:=h',toks:=s.toks + 2 }) :
  wpAny (model prog w) A (setAttr (.ref x) name v) Q E s:=by
 obtain ⟨od,J,hl⟩:=I.look
 refine W.set_plain X J hs (W.osa_open (s:={ s with toks:=s.toks + 1 }) (r:=none) X J hp ht fun b => ?_)
 obtain ⟨cd,hc,hd'⟩:=W.any_some hh
 have hx:s.heap.get? x = some ⟨.ref C,some dx,.plain, #[]⟩:=I.obj
 refine wpAny_bind (wpAny_pure (wpAny_bind (wpAny_bind (wpAny_loadPart hx (wpAny_bind (W.Looks.here (s:={ s with toks:=s.toks + 1 }) (W.looks_clsIn X hc) ?_))))))
 rw [hd']
 refine wpAny_pure (a:=some dx) (wpAny_bind (wpAny_pure (wpAny_bind ?_)))
 refine wpAny_nsSet1 (s:={ s with toks:=s.toks + 1 }) I.ns fun h' hn2 hs2 => ?_
 obtain ⟨oD,esD,epD,hoD,hdD,hcD⟩:=hn2.count (PySem.Within.cons name v hw)
 refine wpAny_bind (wpAny_lookBehind hoD (by rw [hdD]; exact pastItsLine_dict (Nat.le_trans hcD (by rw [List.length_cons]; omega))) ?_)
 exact wpAny_pure (h _ ⟨(hs2.2 _ (Ne.symm I.ne)).trans I.obj,hn2,I.ne⟩ hs2)
theorem make_map {R:Result→Shared→Prop} {vs:List Value} {kw:List (Str × Value)} (X:K.In s.heap) (hm:W.makesIn K C = true)
  (hi:W.findIn K (.ref C) "__init__" = some (some (.ref f))) (hf:W.typeIn K (.ref f) = some (.type "function"))
  (h:codeAny (model prog w) (A.under (.builtin "type.__call__" ⟨.ref C :: vs,kw⟩)) (.call (.ref f) ⟨.ref (s.heap.objs.size + 1) :: vs,kw⟩) (W.InitBack (s.heap.objs.size + 1) R)
   { s with heap:=(s.heap.push W.emptyDict).push (W.instObj C s.heap.objs.size) }) :
  codeAny (model prog w) A (.call (.ref C) ⟨vs,kw⟩) R s:=by
 obtain ⟨hh,g,d,t,os⟩:=s
 exact W.make_core (W.makes_of X hm) (W.looks_findIn X hi) (fun self => W.bind_fn X self hf) (.inl rfl) h
end
def putF (f:Str) (v:V):List (Str × V)→List (Str × V)
 | [] => [(f,v)]
 | (g,x) :: r => if g = f then (g,v) :: r else (g,x) :: putF f v r
theorem lookup_putF (f g:Str) (v:V):∀ fs:List (Str × V),(putF f v fs).lookup g = if g = f then some v else fs.lookup g
 | [] => by
  show List.lookup g [(f,v)] = _
  by_cases h:g = f
  ·have hb:(g == f) = true:=beq_iff_eq.mpr h
   simp only [List.lookup,hb,if_pos h]
  ·have hb:(g == f) = false:=beq_eq_false_iff_ne.mpr h
   simp only [List.lookup,hb,if_neg h]
 | (k,x) :: r => by
  have ih:=lookup_putF f g v r
  rw [show putF f v ((k,x) :: r) = (if k = f then (k,v) :: r else (k,x) :: putF f v r) from rfl]
  by_cases hk:k = f
  ·rw [if_pos hk]
   by_cases h:g = k
   ·have hb:(g == k) = true:=beq_iff_eq.mpr h
    simp only [List.lookup,hb,if_pos (h.trans hk)]
   ·have hb:(g == k) = false:=beq_eq_false_iff_ne.mpr h
    simp only [List.lookup,hb,if_neg (fun e:g = f => h (e.trans hk.symm))]
  ·rw [if_neg hk]
   by_cases h:g = k
   ·have hb:(g == k) = true:=beq_iff_eq.mpr h
    simp only [List.lookup,hb,if_neg (fun e:g = f => hk (h.symm.trans e))]
   ·have hb:(g == k) = false:=beq_eq_false_iff_ne.mpr h
    simp only [List.lookup,hb]
    exact ih
theorem keys_putF (f:Str) (v:V):∀ fs:List (Str × V),f ∈ (putF f v fs).map (·.1)∧∀ g,g ∈ fs.map (·.1)→g ∈ (putF f v fs).map (·.1)
 | [] => ⟨by simp [putF],fun g h => by simp at h⟩
 | (k,x) :: r => by
  obtain ⟨i1,i2⟩:=keys_putF f v r
  rw [show putF f v ((k,x) :: r) = (if k = f then (k,v) :: r else (k,x) :: putF f v r) from rfl]
  by_cases hk:k = f
  ·rw [if_pos hk]
   subst hk
   exact ⟨by simp,fun g h => by simpa using h⟩
  ·rw [if_neg hk]
   refine ⟨?_,fun g h => ?_⟩
   ·rw [List.map_cons]
    exact List.mem_cons_of_mem _ i1
   ·rw [List.map_cons] at h ⊢
    rcases List.mem_cons.mp h with e | e
    ·exact List.mem_cons.mpr (.inl e)
    ·exact List.mem_cons_of_mem _ (i2 g e)
theorem length_putF (f:Str) (v:V):∀ fs:List (Str × V),(putF f v fs).length ≤ fs.length + 1
 | [] => by simp [putF]
 | (k,x) :: r => by
  have ih:=length_putF f v r
  rw [show putF f v ((k,x) :: r) = (if k = f then (k,v) :: r else (k,x) :: putF f v r) from rfl]
  by_cases hk:k = f
  ·rw [if_pos hk,List.length_cons,List.length_cons]; omega
  ·rw [if_neg hk,List.length_cons,List.length_cons]; omega
theorem RelO.some_of {v:V} {o:Option Value} (r:RelO (some v) o):∃ u,o = some u∧Z6 v u:=by
 cases o with
 | none => exact (show False from r).elim
 | some u => exact ⟨u,rfl,r⟩
theorem RelO.none_of {o:Option Value} (r:RelO none o):o = none:=by
 cases o with
 | none => rfl
 | some u => exact (show False from r).elim
theorem handed_of {v:V} {u:Value} (r:Z6 v u):W.handedIn u = true:=by
 cases v with
 | non => cases (show u = Value.none from r); rfl
 | bl b => cases (show u = Value.bool b from r); rfl
 | int i => obtain ⟨t,e⟩:=(show ∃ t,u = Value.int i t from r); cases e; rfl
 | str x => obtain ⟨t,e⟩:=(show ∃ t,u = Value.str x t from r); cases e; rfl
 | byt b => obtain ⟨t,e⟩:=(show ∃ t,u = Value.bytes b t from r); cases e; rfl
 | flt b => obtain ⟨t,e⟩:=(show ∃ t,u = Value.float b t from r); cases e; rfl
 | ref a => cases (show u = Value.ref a from r); rfl
 | ty n => cases (show u = Value.type n from r); rfl
section
variable {P:Program} {w:World} {H H':Hp} {h h':Heap} {a C dx:Addr} {fs fs':List (Str × V)}
theorem ins_get (hok:HOk P w H h) (e:H a = some (.ins C dx fs)):∃ mA,ObjM h a dx C mA∧(∀ f,RelO (fs.lookup f) (mA f))∧PySem.Within mA (fs.map (·.1))∧fs.length ≤ 1000∧H dx = some (.own a):=by
 obtain ⟨d,z,ne,ob,mA,n,r,q⟩:=(show Vm P w H h a (.ins C dx fs) from hok a _ e)
 exact ⟨mA,⟨ob,n,ne⟩,r,q,z,d⟩
end
structure Cls (K:W.Frag) (C:Addr):Prop where
 pg:W.plainGet K C Str.empty = true
 hd:W.hasDictIn K C = true
 po:W.plainOver K C = true
 sa:W.findIn K (.ref C) "__setattr__" = some (some (.builtin "object.__setattr__"))
theorem Cls.get {K:W.Frag} {C:Addr} (c:Cls K C) (f:Str):W.plainGet K C f = true:=c.pg
def NoAttr (K:W.Frag) (C:Addr) (f:Str):Prop:=W.findIn K (.ref C) f = some none
theorem NoAttr.taker {K:W.Frag} {C:Addr} {f:Str} (n:NoAttr K C f):W.takerIn K C f = some none:=by
 unfold W.takerIn
 rw [show W.findIn K (.ref C) f = some none from n]
 rfl
structure Con (K:W.Frag) (C:Addr) (f:Str) (v:V) (u:Value):Prop where
 at_:W.findIn K (.ref C) f = some (some u)
 rel:Z6 v u
 get:W.specialIn K u "__get__" = some none
 cp:W.copiedNames.contains f = false
structure Meth (K:W.Frag) (C:Addr) (m:Str) (f:Addr):Prop where
 at_:W.findIn K (.ref C) m = some (some (.ref f))
 fn:W.isFn K (.ref f) = true
 kp:W.keepIn K (.ref f) = true
section
variable {X:Cx} {pins:List (Addr × Obj)} {σ:St} {H:Hp} {s:Shared} {a C dx:Addr} {fs:List (Str × V)} {f:Str} {v:V} {A:Around} {E:Value→Shared→Prop}
theorem getattr_ok {b:Bool} {Q:Value→Shared→Prop} (I:Zo X pins σ H s) (e:H a = some (.ins C dx fs)) (c:Cls X.K C) (n:NoAttr X.K C f) (l:fs.lookup f = some v)
  (h:∀ u s',Zo X pins σ H s'→Z6 v u→Q u s'):wpAny (model X.prog X.w) A (getAttr (.ref a) f b) Q E s:=by
 obtain ⟨mA,O,r,_,_,_⟩:=ins_get I.hok e
 obtain ⟨u,hu,ru⟩:=RelO.some_of (v:=v) (o:=mA f) (by rw [← l]; exact r f)
 exact get_map I.kIn O (c.get f) c.hd n hu (handed_of ru) (h u _ (I.tok _) ru)
theorem getmeth_ok {m:Str} {g:Addr} {pl:Sem Bool} {Q:Value × List Value→Shared→Prop} (I:Zo X pins σ H s) (e:H a = some (.ins C dx fs)) (c:Cls X.K C) (k:Meth X.K C m g) (l:fs.lookup m = none)
  (h:Q (.ref g,[.ref a]) s):wpAny (model X.prog X.w) A (getMethod (.ref a) m pl) Q E s:=by
 obtain ⟨mA,O,r,_,_,_⟩:=ins_get I.hok e
 have hn:mA m = none:=RelO.none_of (by rw [← l]; exact r m)
 exact get_meth I.kIn O (c.get m) k.at_ k.fn hn h
theorem setattr_ok {y:V} {u:Value} {Q:Unit→Shared→Prop} (I:Zo X pins σ H s) (e:H a = some (.ins C dx fs)) (c:Cls X.K C) (n:NoAttr X.K C f) (hl:fs.length < 1000) (ry:Z6 y u)
  (h:∀ s',Zo X pins σ (Z4 H a (.ins C dx (putF f y fs))) s'→Q () s'):wpAny (model X.prog X.w) A (setAttr (.ref a) f u) Q E s:=by
 obtain ⟨mA,O,r,wi,_,ho⟩:=ins_get I.hok e
 have hz:(fs.map (·.1)).length ≤ sizeLine:=by rw [List.length_map,sizeLine_eq]; omega
 refine set_map I.kIn O c.sa c.po n.taker c.hd wi hz fun h' O' sb => h _ ?_
 have hd:∃ o,h'.get? dx = some o:=let ⟨o,_,_,e',_⟩:=O'.ns; ⟨o,e'⟩
 refine I.write (x:=a) (e:=dx) (by rw [e]; exact True.intro) (.inr ho) (fun b q hb z => (sb.2 b hb).trans z) hd ?_
 refine ⟨by rw [Zh O.ne]; exact ho, ?_,O.ne,O'.obj,_,O'.ns,fun g => ?_,fun g hg => ?_⟩
 ·have:=length_putF f y fs; omega
 ·show RelO ((putF f y fs).lookup g) (if g = f then some u else mA g)
  rw [lookup_putF]
  by_cases q:g = f
  ·rw [if_pos q,if_pos q]; exact ry
  ·rw [if_neg q,if_neg q]; exact r g
 ·by_cases q:g = f
  ·rw [q]; exact (keys_putF f y fs).1
  ·refine (keys_putF f y fs).2 g (wi g fun z => hg ?_)
   show (if g = f then some u else mA g) = none
   rw [if_neg q]; exact z
theorem Zo.made (I:Zo X pins σ H s):Zo X pins σ (Z4 (Z4 H s.heap.objs.size (.own (s.heap.objs.size + 1))) (s.heap.objs.size + 1) (.ins C s.heap.objs.size []))
  { s with heap:=(s.heap.push W.emptyDict).push (W.instObj C s.heap.objs.size) }:=by
 have e1:(s.heap.push W.emptyDict).get? s.heap.objs.size = some W.emptyDict:=Heap.get?_push_size s.heap rfl
 have e2:((s.heap.push W.emptyDict).push (W.instObj C s.heap.objs.size)).get? (s.heap.objs.size + 1) = some (W.instObj C s.heap.objs.size):=by
  have:=Heap.get?_push_size (s.heap.push W.emptyDict) (o:=W.instObj C s.heap.objs.size) rfl
  rwa [Heap.size_push] at this
 have e3:(s.heap.push W.emptyDict).Ns s.heap.objs.size (fun _ => none):=⟨W.emptyDict, #[],_,e1,rfl,(fun e he => absurd he (by simp)),fun _ => rfl⟩
 have I1:=I.laid (a:=s.heap.objs.size) (o:=.own (s.heap.objs.size + 1)) (h':=s.heap.push W.emptyDict) (t':=s.toks) (fun b u q => Heap.get?_push_of_some _ q) (Nat.le_refl _) ⟨_,e1⟩
 refine I1.laid (a:=s.heap.objs.size + 1) (o:=.ins C s.heap.objs.size []) (t':=s.toks) (fun b u q => Heap.get?_push_of_some _ q) (Nat.le_of_eq (Heap.size_push _ _)) ?_
 have ne:s.heap.objs.size ≠ s.heap.objs.size + 1:=Nat.ne_of_lt (Nat.lt_succ_self _)
 refine ⟨by rw [Zh ne,Zq],Nat.zero_le _,ne,e2,fun _ => none,(Heap.Ns1.of_empty e3).at fun o q => Heap.get?_push_of_some _ q,fun _ => True.intro,fun y hy => absurd rfl hy⟩
theorem attr_of {prog:Program} {w:World} {env:Env} {e:Expr} {f:Str} {pos:Pos} {s:Shared} {Q:Value→Shared→Prop} (hb:attributeBase e f env (eval e env) = eval e env)
  (h:wpAny (model prog w) A (eval e env) (fun o s₁ => wpAny (model prog w) A (getAttr o f true) Q E s₁) E s):wpAny (model prog w) A (eval (.Attribute e f pos) env) Q E s :=
 Attribute_any_ h (by rw [arm_eval_Attribute,hb])
end
def tFld (K:W.Frag) (ta:TE) (f:Str):TE:=fun σ H Q => ta σ H fun x H1 => ∃ a C dx fs v,x = .ref a∧H1 a = some (.ins C dx fs)∧Cls K C∧NoAttr K C f∧fs.lookup f = some v∧Q v H1
def sFld (K:W.Frag) (ta tv:TE) (f:Str):TS:=fun D σ H => tv σ H fun y H1 => ta σ H1 fun x H2 => ∃ a C dx fs,x = .ref a∧H2 a = some (.ins C dx fs)∧Cls K C∧NoAttr K C f∧fs.length < 1000 ∧
 D.nx σ (Z4 H2 a (.ins C dx (putF f y fs)))
section
variable {X:Cx} {o e value:Expr} {f:Str} {pos pos' tpos:Pos} {ta tv:TE}
theorem pe_fld (he:PE X e ta) (hb:attributeBase e f X.env (eval e X.env) = eval e X.env):PE X (.Attribute e f pos) (tFld X.K ta f):=by
 intro pins s σ H Q I h
 refine attr_of hb (Y9 (he pins s σ H _ I h) fun u s1 ⟨x,H1,I1,rx,a,C,dx,fs,v,ex,ea,c,n,l,q⟩ => ?_)
 subst ex
 obtain rfl:u = Value.ref a:=rx
 exact getattr_ok I1 ea c n l fun u' s2 I2 ru => ⟨v,H1,I2,ru,q⟩
theorem ps_fld (ha:PE X o ta) (hv:PE X value tv) (hs:swapsWith value (some (.Attribute o f pos')) pos.line X.env = pure false):PS X (.Assign [.Attribute o f pos'] value pos) (sFld X.K ta tv f):=by
 intro pins s σ H D I h
 refine plainObj_wpAny_Assign_Attribute (Y9 (hv pins s σ H _ I h) fun u s1 ⟨y,H1,I1,ry,q⟩ => Y9 (ha pins s1 σ H1 _ I1 q) fun ov s2 ⟨x,H2,I2,rx,a,C,dx,fs,ex,ea,c,n,l,q2⟩ => ?_) hs
 subst ex
 obtain rfl:ov = Value.ref a:=rx
 exact setattr_ok I2 ea c n l ry fun s3 I3 => ⟨σ,_,I3,q2⟩
end
section
variable {X:Cx} {pins:List (Addr × Obj)} {σ:St} {H:Hp} {s:Shared} {A:Around} {E:Value→Shared→Prop} {Q:Value→Shared→Prop} {c:Value} {b:Bool}
inductive TyOf (K:W.Frag) (H:Hp):V→Value→Prop where
 | non:TyOf K H .non (.type "NoneType")
 | bl (x:Bool):TyOf K H (.bl x) (.type "bool")
 | int (i:Int):TyOf K H (.int i) (.type "int")
 | str (x:Str):TyOf K H (.str x) (.type "str")
 | flt (x:UInt64):TyOf K H (.flt x) (.type "float")
 | lst {a:Addr} {xs:List V} (e:H a = some (.lst xs)):TyOf K H (.ref a) (.type "list")
 | frz {a:Addr} {o:Obj} {xs:List V} (e:H a = some (.frz o (.lst xs))):TyOf K H (.ref a) (.type "list")
 | tup {a:Addr} {xs:List V} (e:H a = some (.tup xs)):TyOf K H (.ref a) (.type "tuple")
 | dK {a:Addr} {kvs:List (Key × V)} (e:H a = some (.dK kvs)):TyOf K H (.ref a) (.type "dict")
 | dT {a:Addr} {kvs:List (List Key × V)} (e:H a = some (.dT kvs)):TyOf K H (.ref a) (.type "dict")
 | ins {a C dx:Addr} {fs:List (Str × V)} (e:H a = some (.ins C dx fs)) (cl:Cls K C) (ha:W.findIn K (.ref C) "__class__" = some (some (.builtin "object.__class__")))
   (hn:W.specialIn K (.builtin "object.__class__") "__get__" = some (some (.builtin "getset_descriptor.__get__"))) (htk:W.takesIn K (.builtin "object.__class__") = some true)
   (hm:W.mroIn K C (.type "object") = some true):TyOf K H (.ref a) (.ref C)
theorem isinst_ok {x:V} {u t:Value} (I:Zo X pins σ H s) (rx:Z6 x u) (ty:TyOf X.K H x t) (e:W.kitOne X.K t c = some b) (h:∀ tk,Q (.bool b) { s with toks:=tk }) :
  wpAny (model X.prog X.w) A (call (.builtin "isinstance") [u,c]) Q E s:=by
 cases ty with
 | non => cases (show u = Value.none from rx); exact W.kia_one W.kitx_none I.kIn True.intro e (fun z => nomatch z) h
 | bl y => cases (show u = Value.bool y from rx); exact W.kia_one W.kitx_bool I.kIn True.intro e (fun z => nomatch z) h
 | int i => obtain ⟨t,q⟩:=(show ∃ t,u = Value.int i t from rx); cases q; exact W.kia_one W.kitx_int I.kIn True.intro e (fun z => nomatch z) h
 | str y => obtain ⟨t,q⟩:=(show ∃ t,u = Value.str y t from rx); cases q; exact W.kia_one W.kitx_str I.kIn True.intro e (fun z => nomatch z) h
 | flt y => obtain ⟨t,q⟩:=(show ∃ t,u = Value.float y t from rx); cases q; exact W.kia_one W.kitx_float I.kIn True.intro e (fun z => nomatch z) h
 | @lst a xs ea =>
  cases (show u = Value.ref a from rx)
  obtain ⟨_,_,n,_,h1⟩:=(show Vm X.prog X.w H s.heap a (.lst xs) from I.hok a _ ea)
  exact W.kia_one W.kitx_list I.kIn ⟨_,h1,rfl⟩ e (fun z => nomatch z) h
 | @frz a ob xs ea =>
  cases (show u = Value.ref a from rx)
  obtain ⟨_,_,_,n,_,h1⟩:=(show Vm X.prog X.w H s.heap a (.frz ob (.lst xs)) from I.hok a _ ea)
  exact W.kia_one W.kitx_list I.kIn ⟨_,h1,rfl⟩ e (fun z => nomatch z) h
 | @tup a xs ea =>
  cases (show u = Value.ref a from rx)
  obtain ⟨_,_,_,p⟩:=(show Vm X.prog X.w H s.heap a (.tup xs) from I.hok a _ ea)
  obtain ⟨o,h1,h2,_⟩:=p
  exact W.kia_one W.kitx_tuple I.kIn ⟨o,h1,h2⟩ e (fun z => nomatch z) h
 | @dK a kvs ea =>
  cases (show u = Value.ref a from rx)
  obtain ⟨_,_,vs,_,p⟩:=(show Vm X.prog X.w H s.heap a (.dK kvs) from I.hok a _ ea)
  obtain ⟨o,es,ep,h1,h2,_⟩:=p
  exact W.kia_one W.kitx_dict I.kIn ⟨o,h1,h2.1⟩ e (fun z => nomatch z) h
 | @dT a kvs ea =>
  cases (show u = Value.ref a from rx)
  obtain ⟨_,_,xs,_,o,es,ep,h1,h2,_⟩:=(show Vm X.prog X.w H s.heap a (.dT kvs) from I.hok a _ ea)
  exact W.kia_one W.kitx_dict I.kIn ⟨o,h1,h2.1⟩ e (fun z => nomatch z) h
 | @ins a C dx fs ea cl ha hn htk hm =>
  cases (show u = Value.ref a from rx)
  obtain ⟨mA,O,_⟩:=ins_get I.hok ea
  obtain ⟨od,J,_⟩:=O.look
  exact W.kia_one (W.kitx_own (cl.get _) cl.hd ha hn htk hm) I.kIn J e (fun z => nomatch z) h
end
structure Vl (k:Nat) (A:Around):Prop where
 hd:A.handled = none
 dp:A.depth + 3 * k + 5 < recursionLimit
 un:A.units + 16 * k + 200 < cLine
theorem Vl.mono {j k:Nat} {A:Around} (r:Vl k A) (h:j ≤ k):Vl j A:=⟨r.hd,by have:=r.dp; omega,by have:=r.un; omega⟩
theorem Vl.deeper {k:Nat} {A:Around} (r:Vl (k + 1) A) (env:Env):Vl k (A.deeper env) :=
 ⟨r.hd,by have:=r.dp; show A.depth + 1 + 3 * k + 5 < _; omega,by have:=r.un; show A.units + 3 + 16 * k + 200 < _; omega⟩
theorem Vl.in1 {k:Nat} {A:Around} (r:Vl (k + 1) A):Vl k A.in1 :=
 ⟨r.hd,by have:=r.dp; show A.depth + 3 * k + 5 < _; omega,by have:=r.un; show A.units + 1 + 16 * k + 200 < _; omega⟩
theorem make_depth {A:Around} {C:Addr} {us:List Value} {kw:List (Str × Value)}:(A.under (.builtin "type.__call__" ⟨.ref C :: us,kw⟩)).depth = A.depth + 1:=by
 first | rfl | simp [Around.under,Code.weight,Code.isCreation,Code.isGuard,Code.isCaller,Code.frames,Code.isFrame,guardIds]
theorem make_units {A:Around} {C:Addr} {us:List Value} {kw:List (Str × Value)}:(A.under (.builtin "type.__call__" ⟨.ref C :: us,kw⟩)).units = A.units + 1:=by
 first | rfl | simp [Around.under,Code.cUnits,Code.frames,Code.isFrame]
theorem Vl.make {k:Nat} {A:Around} (r:Vl (k + 1) A) (C:Addr) (us:List Value) (kw:List (Str × Value)):Vl k (A.under (.builtin "type.__call__" ⟨.ref C :: us,kw⟩)) :=
 ⟨r.hd,by have:=r.dp; rw [make_depth]; omega,by have:=r.un; rw [make_units]; omega⟩
theorem Vl.depth {k:Nat} {A:Around} (r:Vl k A):A.depth < recursionLimit:=by have:=r.dp; omega
theorem Vl.units {k:Nat} {A:Around} (r:Vl k A):A.units + 64 < cLine:=by have:=r.un; omega
def tNil:TA:=fun _ H Q => Q [] H
def Vd (ta:TE) (tr:TA):TA:=fun σ H Q => ta σ H fun x H1 => tr σ H1 fun xs H2 => Q (x :: xs) H2
section
variable {X:Cx} {e:Expr} {es:List Expr} {te:TE} {t:TA} {pos:Pos}
theorem Zz:PA X [] tNil:=fun _ _ _ _ H Q I h => Calls.spliced_nil ⟨[],H,I,.nil,h⟩
theorem Ys (ha:PE X e te) (hr:PA X es t) (hs:starEach (e :: es) X.env = (false,eval e X.env) :: starEach es X.env:=by rfl):PA X (e :: es) (Vd te t):=by
 intro pos pins s σ H Q I h
 rw [hs]
 show wpAny _ _ (spliced ((false,eval e X.env) :: backTo pos (starEach es X.env))) _ _ s
 refine Calls.spliced_cons (Y9 (ha pins s σ H _ I h) fun u s1 ⟨x,H1,I1,r1,q1⟩ => ?_)
 exact Y9 (hr pos pins s1 σ H1 _ I1 q1) fun us s2 ⟨xs,H2,I2,r2,q2⟩ => ⟨x :: xs,H2,I2,.cons r1 r2,q2⟩
theorem Zg (ha:PE X e te) (hr:PA X es t) (hs:starEach (e :: es) X.env = (false,eval e X.env) :: starEach es X.env):PA X (e :: es) (Vd te t):=Ys ha hr hs
def tTup (t:TA):TE:=fun σ H Q => t σ H fun xs H1 => xs.length ≤ sizeLine∧∀ p,H1 p = none→Q (.ref p) (Z4 H1 p (.tup xs))
def tLst (t:TA):TE:=fun σ H Q => t σ H fun xs H1 => xs.length ≤ sizeLine∧∀ p,H1 p = none→Q (.ref p) (Z4 H1 p (.lst xs))
theorem Z3 {x1} (h:PA X es t):PE X (.Tuple es x1 pos) (tTup t):=by
 intro pins s σ H Q I hq
 refine wpAny_Tuple_spliced (Y9 (h pos pins s σ H _ I hq) fun us s1 ⟨xs,H1,I1,r,z,q⟩ => ⟨by rw [← r.length]; exact z, ?_⟩)
 have hf:H1 s1.heap.objs.size = none:=I1.hok.fresh (Nat.le_refl _)
 refine ⟨.ref s1.heap.objs.size,Z4 H1 s1.heap.objs.size (.tup xs),I1.laid (t':=s1.toks) (fun b u e => Heap.get?_push_of_some _ e) (Nat.le_refl _) ?_,rfl,q _ hf⟩
 exact ⟨z,us,r,⟨_,Heap.get?_push_size _ rfl,rfl,_,rfl⟩⟩
theorem Y2 (h:PA X es t):PE X (.List es pos) (tLst t):=by
 intro pins s σ H Q I hq
 refine wpAny_List_spliced (Y9 (h pos pins s σ H _ I hq) fun us s1 ⟨xs,H1,I1,r,z,q⟩ => ⟨by rw [← r.length]; exact z, ?_⟩)
 have hf:H1 s1.heap.objs.size = none:=I1.hok.fresh (Nat.le_refl _)
 refine ⟨.ref s1.heap.objs.size,Z4 H1 s1.heap.objs.size (.lst xs),I1.laid (t':=s1.toks) (fun b u e => Heap.get?_push_of_some _ e) (Nat.le_refl _) ?_,rfl,q _ hf⟩
 exact ⟨z,us,0,r,Heap.get?_push_size _ rfl⟩
end
abbrev Sp:=List V→Hp→VK→XK→Prop
abbrev CXT:=List Env→Hp→Shared→XK→Value→Shared→Prop
structure Env0 (P:Program) (w:World) (K:W.Frag) (mg:Str→Option Value) (base:Heap) (A:Around) (outer:List Env) (s:Shared) (H:Hp):Prop where
 frames:A.frames = some outer
 mod:Mod K mg base
 bs:∀ b o,base.get? b = some o→s.heap.get? b = some o∧H b = none
 bsz:base.objs.size ≤ s.heap.objs.size
 funs:s.heap.FunFrames base outer
 frf:∀ b ∈ frs outer,H b = none
 hok:HOk P w H s.heap
 bare:AllBare s.gens
def CE (outer:List Env) (P:Program) (w:World) (H:Hp) (s:Shared) (Q:VK) (u:Value) (s':Shared):Prop :=
 ∃ v H',s'.os = s.os∧AllBare s'.gens∧Un (frs outer) [] H H' s.heap s'.heap∧HOk P w H' s'.heap∧Z6 v u∧Q v H'
def CR (CX:CXT) (outer:List Env) (P:Program) (w:World) (H:Hp) (s:Shared) (Q:VK) (E:XK) (r:Result) (s':Shared):Prop :=
 match r with
 | .ok (.ret u) => CE outer P w H s Q u s'
 | .ok _ => False
 | .error e => CX outer H s E e s'
structure Yy (P:Program) (w:World) (K:W.Frag) (mg:Str→Option Value) (base:Heap) (CX:CXT) (k:Nat) (f:Addr) (fd:FuncData) (ps:List Str) (sp:Sp):Prop where
 len:∀ vs H Q E,sp vs H Q E→vs.length = ps.length
 run:∀ (A:Around) (outer:List Env) (s:Shared) (H:Hp) (args:Args) (us:List Value) (vs:List V) (Q:VK) (E:XK),Vl k A→Env0 P w K mg base A outer s H→BindsTo s fd args (ps.zip us)→Z2 vs us→sp vs H Q E →
  codeAny (model P w) A (.call (.ref f) args) (CR CX outer P w H s Q E) s
theorem Yy.mono {P:Program} {w:World} {K:W.Frag} {mg:Str→Option Value} {base:Heap} {CX:CXT} {j k:Nat} {f:Addr} {fd:FuncData} {ps:List Str} {sp:Sp} (F:Yy P w K mg base CX j f fd ps sp) (h:j ≤ k) :
  Yy P w K mg base CX k f fd ps sp:=⟨F.len,fun A outer s H args us vs Q E hr => F.run A outer s H args us vs Q E (hr.mono h)⟩
theorem Env0.make {P:Program} {w:World} {K:W.Frag} {mg:Str→Option Value} {base:Heap} {A:Around} {outer:List Env} {s:Shared} {H:Hp} (e:Env0 P w K mg base A outer s H) (C:Addr) (us:List Value) (kw:List (Str × Value)) :
  Env0 P w K mg base (A.under (.builtin "type.__call__" ⟨.ref C :: us,kw⟩)) outer s H:=⟨by first | exact e.frames | (simpa [Around.under,Code.envs,Code.isFrame,pushEnvs] using e.frames),e.mod,e.bs,e.bsz,e.funs,e.frf,e.hok,e.bare⟩
theorem Env0.in1 {P:Program} {w:World} {K:W.Frag} {mg:Str→Option Value} {base:Heap} {A:Around} {outer:List Env} {s:Shared} {H:Hp} (e:Env0 P w K mg base A outer s H) :
  Env0 P w K mg base A.in1 outer s H:=⟨e.frames,e.mod,e.bs,e.bsz,e.funs,e.frf,e.hok,e.bare⟩
section
variable {X:Cx} {pins:List (Addr × Obj)} {σ:St} {H:Hp} {s s':Shared}
theorem Zo.env0 (I:Zo X pins σ H s):Env0 X.prog X.w X.K X.mg X.base X.A X.stack s H :=
 ⟨I.ok.frames,I.ok.mod,I.bs,Nat.le_trans I.ok.bsz I.sz,I.stack,I.stkFree,I.hok,I.bare⟩
theorem Zo.after {Q:VK} {u:Value} (I:Zo X pins σ H s) (h:CE X.stack X.prog X.w H s Q u s'):EP X pins σ Q u s':=by
 obtain ⟨v,H',os,bare,un,hok,r,q⟩:=h
 obtain ⟨hh,g,d,t,os'⟩:=s'
 obtain rfl:os' = s.os:=os
 exact ⟨v,H',I.call (h':=hh) (g':=g) (d':=d) (t':=t) (ch:=[]) un hok bare (fun b z => absurd z (by simp)),r,q⟩
end
def tCall (sp:Sp) (dvs:List V) (E:XK) (t:TA):TE:=fun σ H Q => t σ H fun vs H1 => sp (vs ++ dvs) H1 Q E
def tMeth (C:Addr) (m:Str) (sp:Sp) (dvs:List V) (E:XK) (ta:TE) (t:TA):TE:=fun σ H Q => ta σ H fun x H1 => ∃ a dx fs,x = .ref a∧H1 a = some (.ins C dx fs)∧fs.lookup m = none ∧
 t σ H1 fun vs H2 => sp (x :: (vs ++ dvs)) H2 Q E
def tMake (C:Addr) (sp:Sp) (dvs:List V) (E:XK) (t:TA):TE:=fun σ H Q => t σ H fun vs H1 => ∀ x dx,H1 x = none→H1 dx = none→dx ≠ x →
 sp (.ref x :: (vs ++ dvs)) (Z4 (Z4 H1 dx (.own x)) x (.ins C dx [])) (fun v H2 => v = .non∧Q (.ref x) H2) E
def Binds (K:W.Frag) (fd:FuncData) (ps:List Str) (ds:List Value):Prop :=
 ∀ (s:Shared) (us:List Value),K.In s.heap→(us ++ ds).length = ps.length→BindsTo s fd ⟨us,[]⟩ (ps.zip (us ++ ds))
theorem Binds.all {K:W.Frag} {fd:FuncData} {ps:List Str} (h:∀ us:List Value,us.length = ps.length→bindArgs fd ⟨us,[]⟩ = pure (ps.zip us)):Binds K fd ps []:=fun s us _ hl => by
 rw [List.append_nil] at hl ⊢
 exact .of_eq (h us hl)
def Passes (CX:CXT) (X:Cx) (E:XK):Prop:=∀ (pins:List (Addr × Obj)) (σ:St) (H:Hp) (s:Shared) (e:Value) (s':Shared),Zo X pins σ H s→CX X.stack H s E e s'→X.xe e s'
section
variable {X:Cx} {CX:CXT} {k:Nat} {f C:Addr} {fd:FuncData} {ps:List Str} {sp:Sp} {dvs:List V} {ds:List Value} {E:XK} {x m:Str} {p pos apos:Pos} {e o:Expr} {es:List Expr} {ta:TE} {t:TA}
theorem run_fn {pins:List (Addr × Obj)} {σ:St} {H:Hp} {s:Shared} {Q:VK} {us:List Value} {vs:List V} (F:Yy X.prog X.w X.K X.mg X.base CX k f fd ps sp) (hr:Vl k X.A) (hb:Binds X.K fd ps ds) (hd:Z2 dvs ds) (hx:Passes CX X E)
  (I:Zo X pins σ H s) (r:Z2 vs us) (h:sp (vs ++ dvs) H Q E):wpAny (model X.prog X.w) X.A (call (.ref f) us) (EP X pins σ Q) X.xe s:=by
 have r2:Z2 (vs ++ dvs) (us ++ ds):=r.append hd
 have hl:(us ++ ds).length = ps.length:=by rw [← r2.length]; exact F.len _ _ _ _ h
 refine wpAny_call (codeAny_mono (F.run X.A X.stack s H ⟨us,[]⟩ (us ++ ds) (vs ++ dvs) Q E hr I.env0 (hb s us I.kIn hl) r2 h) fun r s' hq => ?_)
 cases r with
 | error e => exact hx pins σ H s e s' I hq
 | ok fl =>
  cases fl with
  | ret u => exact I.after hq
  | next => exact False.elim hq
  | brk => exact False.elim hq
  | cont => exact False.elim hq
theorem pe_call (F:Yy X.prog X.w X.K X.mg X.base CX k f fd ps sp) (hr:Vl k X.A) (hg:Gl X x) (hm:X.mg x = some (.ref f)) (hk:W.keepIn X.K (.ref f) = true) (hb:Binds X.K fd ps ds) (hd:Z2 dvs ds) (hx:Passes CX X E)
  (ha:PA X (e :: es) t) (hdb:(x == ("__debug__" : Str)) = false:=by decide) (he:starEach (e :: es) X.env = (false,eval e X.env) :: starEach es X.env:=by rfl) (hpl:(backTo pos (starEach es X.env)).any (·.1) = false:=by rfl) :
  PE X (.Call (.Name x p) (e :: es) [] pos) (tCall sp dvs E t):=by
 intro pins s σ H Q I h
 refine wpAny_Call_Name_kw (ld_glob I hg hm ?_ hdb)
 refine W.callWith_K (h₀:=X.base) I.ok.mod.kin hk (Y9 (ha pos pins s σ H _ I h) fun us s1 ⟨vs,H1,I1,r,q⟩ => ⟨I1.kIn, ?_⟩) he hpl
 exact run_fn F hr hb hd hx I1 r q
theorem pe_meth {pl:Sem Bool} (he:PE X o ta) (c:Cls X.K C) (hm:Meth X.K C m f) (F:Yy X.prog X.w X.K X.mg X.base CX k f fd ps sp) (hr:Vl k X.A) (hb:Binds X.K fd ps ds) (hd:Z2 dvs ds) (hx:Passes CX X E) (ha:PA X (e :: es) t)
  (hst:starEach (e :: es) X.env = (false,eval e X.env) :: starEach es X.env:=by rfl) (hpl:(backTo pos (starEach es X.env)).any (·.1) = false:=by rfl)
  (ht:eval (.Call (.Attribute o m apos) (e :: es) [] pos) X.env = (do
   let ov ← eval o X.env
   standAt apos.atName
   let (f,first) ← holding [ov] (getMethod ov m pl)
   callWith pos f first (backTo pos (starEach (e :: es) X.env)) (backToKw pos (keywordEach [] X.env))):=by rfl) :
  PE X (.Call (.Attribute o m apos) (e :: es) [] pos) (tMeth C m sp dvs E ta t):=by
 intro pins s σ H Q I h
 refine W.methodCall_KW (pl:=pl) (Y9 (he pins s σ H _ I h) fun u s1 ⟨x,H1,I1,rx,a,dx,fs,ex,ea,l,q⟩ => ?_) ht
 subst ex
 obtain rfl:u = Value.ref a:=rx
 refine getmeth_ok I1 ea c hm l ?_
 refine W.callWith_K (first:=[.ref a]) (h₀:=X.base) I.ok.mod.kin hm.kp (Y9 (ha pos pins s1 σ H1 _ I1 q) fun us s2 ⟨vs,H2,I2,r,q2⟩ => ⟨I2.kIn, ?_⟩) hst hpl
 exact run_fn (us:=.ref a :: us) (vs:=.ref a :: vs) F hr hb hd hx I2 (.cons rfl r) q2
theorem pe_meth0 {pl:Sem Bool} (he:PE X o ta) (c:Cls X.K C) (hm:Meth X.K C m f) (F:Yy X.prog X.w X.K X.mg X.base CX k f fd ps sp) (hr:Vl k X.A) (hb:Binds X.K fd ps ds) (hd:Z2 dvs ds) (hx:Passes CX X E)
  (ht:eval (.Call (.Attribute o m apos) [] [] pos) X.env = (do
   let ov ← eval o X.env
   standAt apos.atName
   let (f,first) ← holding [ov] (getMethod ov m pl)
   callWith pos f first (backTo pos (starEach [] X.env)) (backToKw pos (keywordEach [] X.env))):=by rfl) :
  PE X (.Call (.Attribute o m apos) [] [] pos) (tMeth C m sp dvs E ta tNil):=by
 intro pins s σ H Q I h
 refine W.methodCall_KW (pl:=pl) (Y9 (he pins s σ H _ I h) fun u s1 ⟨x,H1,I1,rx,a,dx,fs,ex,ea,l,q⟩ => ?_) ht
 subst ex
 obtain rfl:u = Value.ref a:=rx
 refine getmeth_ok I1 ea c hm l ?_
 exact W.callWith_K0 (first:=[.ref a]) I1.kIn hm.kp (run_fn (us:=[.ref a]) (vs:=[.ref a]) F hr hb hd hx I1 (.cons rfl .nil) q)
structure Mk (K:W.Frag) (C f:Addr):Prop where
 makes:W.makesIn K C = true
 init:W.findIn K (.ref C) "__init__" = some (some (.ref f))
 fn:W.isFn K (.ref f) = true
 kp:W.keepIn K (.ref C) = true
theorem run_make {pins:List (Addr × Obj)} {σ:St} {H:Hp} {s:Shared} {Q:VK} {us:List Value} {vs:List V} (M:Mk X.K C f) (F:Yy X.prog X.w X.K X.mg X.base CX k f fd ps sp) (hr:Vl (k + 1) X.A) (hb:Binds X.K fd ps ds) (hd:Z2 dvs ds)
  (hx:Passes CX X E) (I:Zo X pins σ H s) (r:Z2 vs us)
  (h:∀ x dx,H x = none→H dx = none→dx ≠ x→sp (.ref x :: (vs ++ dvs)) (Z4 (Z4 H dx (.own x)) x (.ins C dx [])) (fun v H2 => v = .non∧Q (.ref x) H2) E) :
  wpAny (model X.prog X.w) X.A (call (.ref C) us) (EP X pins σ Q) X.xe s:=by
 have hq:=h (s.heap.objs.size + 1) s.heap.objs.size (I.hok.fresh (Nat.le_succ _)) (I.hok.fresh (Nat.le_refl _)) (Nat.ne_of_lt (Nat.lt_succ_self _))
 have I2:=Zo.made (C:=C) I
 have r2:Z2 (V.ref (s.heap.objs.size + 1) :: (vs ++ dvs)) (Value.ref (s.heap.objs.size + 1) :: (us ++ ds)):=.cons rfl (r.append hd)
 have hl:(Value.ref (s.heap.objs.size + 1) :: us ++ ds).length = ps.length:=by
  have e:=r2.length
  rw [F.len _ _ _ _ hq] at e
  exact e.symm
 refine wpAny_call (make_map (f:=f) I.kIn M.makes M.init (beq_iff_eq.mp M.fn) (codeAny_mono (F.run _ X.stack _ _ ⟨Value.ref (s.heap.objs.size + 1) :: us,[]⟩ (Value.ref (s.heap.objs.size + 1) :: (us ++ ds)) _ _ E (hr.make C us [])
  (I2.env0.make C us []) (hb _ (Value.ref (s.heap.objs.size + 1) :: us) I2.kIn hl) r2 hq) fun r s' hq' => ?_))
 cases r with
 | error e => exact hx pins σ _ _ e s' I2 hq'
 | ok fl =>
  cases fl with
  | ret u =>
   obtain ⟨v,H',I3,rv,ev,q3⟩:=I2.after hq'
   subst ev
   exact ⟨rv,⟨V.ref (s.heap.objs.size + 1),H',I3,rfl,q3⟩⟩
  | next => exact False.elim hq'
  | brk => exact False.elim hq'
  | cont => exact False.elim hq'
theorem pe_make (M:Mk X.K C f) (F:Yy X.prog X.w X.K X.mg X.base CX k f fd ps sp) (hr:Vl (k + 1) X.A) (hg:Gl X x) (hm:X.mg x = some (.ref C)) (hb:Binds X.K fd ps ds) (hd:Z2 dvs ds) (hx:Passes CX X E)
  (ha:PA X (e :: es) t) (hdb:(x == ("__debug__" : Str)) = false:=by decide) (he:starEach (e :: es) X.env = (false,eval e X.env) :: starEach es X.env:=by rfl) (hpl:(backTo pos (starEach es X.env)).any (·.1) = false:=by rfl) :
  PE X (.Call (.Name x p) (e :: es) [] pos) (tMake C sp dvs E t):=by
 intro pins s σ H Q I h
 refine wpAny_Call_Name_kw (ld_glob I hg hm ?_ hdb)
 refine W.callWith_K (h₀:=X.base) I.ok.mod.kin M.kp (Y9 (ha pos pins s σ H _ I h) fun us s1 ⟨vs,H1,I1,r,q⟩ => ⟨I1.kIn, ?_⟩) he hpl
 exact run_make M F hr hb hd hx I1 r q
end
section
variable {X:Cx} {CX:CXT} {k:Nat} {f C:Addr} {fd:FuncData} {ps ks:List Str} {sp:Sp} {E:XK} {x m:Str} {p pos apos kpos:Pos} {e o:Expr} {es:List Expr} {kws:List Keyword} {te ta:TE} {t tk:TA} {nm:Option Str}
structure KBinds (K:W.Frag) (fd:FuncData) (ps ks:List Str) (g:List Value→List Value→List Value) (gV:List V→List V→List V):Prop where
 to:∀ (s:Shared) (us ws:List Value),K.In s.heap→(g us ws).length = ps.length→BindsTo s fd ⟨us,ks.zip ws⟩ (ps.zip (g us ws))
 rel:∀ {vs:List V} {us:List Value} {zs:List V} {ws:List Value},Z2 vs us→Z2 zs ws→Z2 (gV vs zs) (g us ws)
variable {g:List Value→List Value→List Value} {gV:List V→List V→List V}
end
structure Zs (N P:List Str) (sc:Scope):Prop where
 kind:sc.kind = .function
 co:sc.isCoroutine = false
 gen:sc.isGenerator = false
 nd:N.Nodup
 pre:N.take P.length = P
 par:∀ x ∈ P,sc.names.lookup x = some .local ∨ sc.names.lookup x = some .cell
 nofree:∀ y ∈ sc.names,y.2 ≠ .free
theorem bindL_out {kindOf:Str→Option NameKind} {x:Str}:∀ {binds:List (Str × Value)} {m:Str→Option Value},(∀ v,(x,v) ∉ binds)→bindL kindOf binds m x = m x
 | [],_,_ => rfl
 | (n,v) :: r,m,h => by
  unfold bindL
  rw [bindL_out fun w hw => h w (List.mem_cons_of_mem _ hw)]
  split
  ·have:x ≠ n:=by rintro rfl; exact h v List.mem_cons_self
   simp [this]
  ·rfl
theorem bindC_out {kindOf:Str→Option NameKind} {x:Str}:∀ {binds:List (Str × Value)} {m:Str→Option Value},(∀ v,(x,v) ∉ binds)→bindC kindOf binds m x = m x
 | [],_,_ => rfl
 | (n,v) :: r,m,h => by
  unfold bindC
  rw [bindC_out fun w hw => h w (List.mem_cons_of_mem _ hw)]
  split
  ·rfl
  ·have:x ≠ n:=by rintro rfl; exact h v List.mem_cons_self
   simp [this]
theorem bindL_get {kindOf:Str→Option NameKind} {x:Str} {v:Value}:∀ {P:List Str} {vs:List Value} {i:Nat} {m:Str→Option Value},P.Nodup→P[i]? = some x→vs[i]? = some v→kindOf x = some .local →
  bindL kindOf (P.zip vs) m x = some v
 | [],_,_,_,_,h,_,_ => by simp at h
 | _ :: _,[],_,_,_,_,h,_ => by simp at h
 | p :: P,w :: vs,0,m,nd,h1,h2,hk => by
  simp at h1 h2; subst h1; subst h2
  show bindL kindOf ((p,w) :: P.zip vs) m p = _
  unfold bindL
  rw [bindL_out fun v hv => (List.nodup_cons.mp nd).1 (List.of_mem_zip hv).1,if_pos hk]
  simp
 | p :: P,w :: vs,i + 1,m,nd,h1,h2,hk => by
  show bindL kindOf ((p,w) :: P.zip vs) m x = _
  unfold bindL
  exact bindL_get (i:=i) (List.nodup_cons.mp nd).2 (by simpa using h1) (by simpa using h2) hk
theorem bindC_get {kindOf:Str→Option NameKind} {x:Str} {v:Value}:∀ {P:List Str} {vs:List Value} {i:Nat} {m:Str→Option Value},P.Nodup→P[i]? = some x→vs[i]? = some v→kindOf x ≠ some .local →
  bindC kindOf (P.zip vs) m x = some v
 | [],_,_,_,_,h,_,_ => by simp at h
 | _ :: _,[],_,_,_,_,h,_ => by simp at h
 | p :: P,w :: vs,0,m,nd,h1,h2,hk => by
  simp at h1 h2; subst h1; subst h2
  show bindC kindOf ((p,w) :: P.zip vs) m p = _
  unfold bindC
  rw [bindC_out fun v hv => (List.nodup_cons.mp nd).1 (List.of_mem_zip hv).1,if_neg hk]
  simp
 | p :: P,w :: vs,i + 1,m,nd,h1,h2,hk => by
  show bindC kindOf ((p,w) :: P.zip vs) m x = _
  unfold bindC
  exact bindC_get (i:=i) (List.nodup_cons.mp nd).2 (by simpa using h1) (by simpa using h2) hk
def start (N:List Str) (vs:List V):St:=vs.map some ++ List.replicate (N.length - vs.length) none
def cxOf (CX:CXT) (P:Program) (w:World) (K:W.Frag) (mg:Str→Option Value) (base:Heap) (N:List Str) (qual:Str) (scope:Scope) (f:Addr) (cd:Value) (A:Around) (outer:List Env) (s:Shared) (H:Hp) (E:XK):Cx where
 prog:=P
 w:=w
 K:=K
 mg:=mg
 base:=base
 A:=A.deeper (envOfC qual scope s.heap.objs.size f cd)
 N:=N
 s₀:=s
 H₀:=H
 env:=envOfC qual scope s.heap.objs.size f cd
 outer:=outer
 stack:=envOfC qual scope s.heap.objs.size f cd :: outer
 ex:=[]
 calm:=true
 fn:=fun _ => true
 pn:=[]
 xe:=fun e s' => wpAny (model P w) (A.deeper (envOfC qual scope s.heap.objs.size f cd)) (leaving (envOfC qual scope s.heap.objs.size f cd) e) (fun _ s'' => CX outer H s E e s'') (fun e' s'' => CX outer H s E e' s'') s'
theorem cell_has {sc:Scope} {n:Nat} {x:Str} (h:sc.names.lookup x = some .cell):∃ c,(cellsFrom n sc.names []).lookup x = some c:=by
 have q:=W.cellsFrom_some sc.names n [] (.inl h)
 exact Option.isSome_iff_exists.mp q
theorem inv_start {CX:CXT} {P:Program} {w:World} {K:W.Frag} {mg:Str→Option Value} {base:Heap} {N ps:List Str} {qual:Str} {scope:Scope} {f:Addr} {cd:Value} {A:Around} {outer:List Env} {s s1:Shared} {H:Hp} {E:XK} {us:List Value} {vs:List V}
  (S:Zs N ps scope) (hd:A.handled = none) (e0:Env0 P w K mg base A outer s H) (hl:vs.length = ps.length) (r:Z2 vs us)
  (x:InCallC s s.heap.objs.size (bindL (envOfC qual scope s.heap.objs.size f cd).kindOf (ps.zip us) fun _ => none) (cellsFrom (s.heap.objs.size + 1) scope.names []) (bindC (envOfC qual scope s.heap.objs.size f cd).kindOf (ps.zip us) fun _ => none) s1) :
  Zo (cxOf CX P w K mg base N qual scope f cd A outer s H E) [] (start N vs) H s1:=by
 have hpl:ps.length ≤ N.length:=by have:=congrArg List.length S.pre; rw [List.length_take] at this; omega
 obtain ⟨h1,tk,rfl,hk⟩:=x.done
 have noA:∀ b:Addr,b ∉ (cxOf CX P w K mg base N qual scope f cd A outer s H E).ex:=fun b z => absurd (show b ∈ ([]:List Addr) from z) (by simp)
 refine ⟨⟨e0.mod,S.kind,rfl,rfl,Nat.le_refl _,fun y z c h1 h2 => ?_,fun y hy => ?_,fun y c _ h => ?_,fun _ => hd,Around.frames_deeper e0.frames,.inr ⟨rfl,rfl⟩,fun b z => absurd z (noA b),e0.bs,e0.bsz,fun b _ _ => noA b,fun b z => absurd z (noA b),e0.funs,e0.frf⟩,
  rfl,e0.bare,Un.kept hk,⟨_,x.toInCall.ns,fun i y v h1 h2 h3 => ?_⟩,fun y c h => ⟨_,x.cell y c h⟩,e0.hok.fresh (Nat.le_refl _),fun y c h => ?_,fun p hp => absurd (show p ∈ ([]:List (Addr × Obj)) from hp) (by simp),e0.hok.kept hk, ?_⟩
 ·exact name_of_addr x.apart (PySem.mem_of_lookup h1) (PySem.mem_of_lookup h2)
 ·have hy:scope.names.lookup y = some .cell ∨ scope.names.lookup y = some .free:=hy
  rcases hy with hy | hy
  ·exact cell_has hy
  ·exact absurd rfl (S.nofree _ (PySem.mem_of_lookup hy))
 ·exact Nat.le_of_lt (x.above y c (PySem.mem_of_lookup h))
 ·have hi:i < vs.length:=by
   unfold start at h2
   by_cases hi:i < vs.length
   ·exact hi
   ·rw [List.getElem?_append_right (by simpa using hi)] at h2
    rw [List.getElem?_replicate] at h2
    split at h2 <;> cases h2
  have ha:vs[i]? = some v:=by
   unfold start at h2
   rw [List.getElem?_append_left (by simpa using hi),List.getElem?_map] at h2
   cases e:vs[i]? with
   | none => rw [e] at h2; cases h2
   | some a => rw [e] at h2; cases h2; rfl
  obtain ⟨u,hu,rv⟩:=r.get ha
  have hp:ps[i]? = some y:=by
   rw [← S.pre,List.getElem?_take_of_lt (by omega)]; exact h1
  have ndP:ps.Nodup:=by rw [← S.pre]; exact S.nd.sublist (List.take_sublist _ _)
  refine ⟨u,rv, ?_⟩
  rcases S.par y (List.mem_of_getElem? hp) with k | k
  ·exact .inl ⟨k,bindL_get ndP hp hu k⟩
  ·obtain ⟨c,e⟩:=cell_has (n:=s.heap.objs.size + 1) k
   refine .inr ⟨.inl k,c,e, ?_⟩
   have q:=x.cell y c e
   rw [bindC_get ndP hp hu (by show scope.names.lookup y ≠ _; rw [k]; decide)] at q
   exact q
 ·exact e0.hok.fresh (Nat.le_of_lt (x.above y c (PySem.mem_of_lookup h)))
 ·unfold start
  show _ = N.length
  rw [List.length_append,List.length_map,List.length_replicate]
  omega
theorem fn_of {CX:CXT} {P:Program} {w:World} {K:W.Frag} {mg:Str→Option Value} {base:Heap} {k:Nat} {f:Addr} {name qual:Str} {params:Arguments} {body:List Stmt} {scope:Scope} {dV kV doc pm cdv ct oc:Value} {an od:Option Addr}
  {osl:Array (Option Value)} {N ps:List Str} {sp:Sp} (lk:K.lookup f = some ⟨oc,od,.func (W.fnOf name qual params body scope dV kV doc pm an cdv ct),osl⟩) (hcd:W.codeIn K cdv qual = true) (S:Zs N ps scope)
  (len:∀ vs H Q E,sp vs H Q E→vs.length = ps.length)
  (hbody:∀ (A:Around) (outer:List Env) (s:Shared) (H:Hp) (vs:List V) (Q:VK) (E:XK),Vl k (A.deeper (envOfC qual scope s.heap.objs.size f cdv))→sp vs H Q E →
   ∃ t,PSs (cxOf CX P w K mg base N qual scope f cdv A outer s H E) body t∧t { nx:=fun _ H' => Q .non H',rt:=Q } (start N vs) H) :
  Yy P w K mg base CX (k + 1) f (W.fnOf name qual params body scope dV kV doc pm an cdv ct) ps sp:=by
 refine ⟨len,fun A outer s H args us vs Q E hr e0 hb r hsp => ?_⟩
 have hl:=len _ _ _ _ hsp
 have KX:K.In s.heap:=e0.mod.kin.keeps fun b o e => (e0.bs b o e).1
 have lim:s.heap.NoLimit:=e0.mod.nolimit.keeps fun b o e => (e0.bs b o e).1
 have hkind:∀ y ∈ ps.zip us,scope.names.lookup y.1 = some .local ∨ (scope.names.lookup y.1 = some .cell∧((cellsFrom (s.heap.objs.size + 1) scope.names []).lookup y.1).isSome = true):=fun ⟨n,v⟩ hy => by
  rcases S.par n (List.of_mem_zip hy).1 with q | q
  ·exact .inl q
  ·exact .inr ⟨q,W.cellsFrom_some _ _ _ (.inl q)⟩
 refine codeAny_call_function hr.depth (KX _ _ lk) rfl S.co S.gen rfl (W.codeRec_of KX hcd) (hb _ _ _ _ ?_)
 refine wpAny_newFunctionEnv_cells S.kind hkind fun env he s1 x => ?_
 subst he
 refine ⟨lim.keeps x.toInCall.keep,codeAny_func ?_⟩
 obtain ⟨t,ht,hq⟩:=hbody A outer s H vs Q E (hr.deeper _) hsp
 have I:Zo (cxOf CX P w K mg base N qual scope f cdv A outer s H E) [] (start N vs) H s1:=inv_start S hr.hd e0 hl r x
 refine wpAny_mono (ht [] s1 (start N vs) H _ I hq) (fun fl s' hs => ?_) fun e s' hs => hs
 have fin:∀ {σ':St} {H':Hp} {v:V} {u:Value},Zo (cxOf CX P w K mg base N qual scope f cdv A outer s H E) [] σ' H' s'→Z6 v u→Q v H'→CE outer P w H s Q u s' :=
  fun {σ' H' v u} J rv q => ⟨v,H',J.os,J.bare,J.base,J.hok,rv,q⟩
 cases fl with
 | ret u =>
  obtain ⟨v,σ',H',J,rv,q⟩:=hs
  exact fin J rv q
 | next =>
  obtain ⟨σ',H',J,q⟩:=hs
  exact fin (v:=V.non) (u:=Value.none) J rfl q
 | brk =>
  obtain ⟨_,_,_,q⟩:=hs
  exact False.elim q
 | cont =>
  obtain ⟨_,_,_,q⟩:=hs
  exact False.elim q
section
variable {X:Cx} {x:Str} {p pos:Pos} {e:Expr} {es:List Expr} {t:TA} {id T:String} {r:List V→Hp→VK→Prop}
def tCB (r:List V→Hp→VK→Prop) (t:TA):TE:=fun σ H Q => t σ H fun vs H1 => r vs H1 Q
theorem Z5 (hc:CallR X (.builtin id) r) (hg:Gl X x) (hm:X.mg x = none) (hv:bootBuiltins x = some (.builtin id)) (ha:PA X (e :: es) t) (hn:x ≠ "__name__" := by decide) (hdb:(x == ("__debug__" : Str)) = false:=by decide)
  (he:starEach (e :: es) X.env = (false,eval e X.env) :: starEach es X.env:=by rfl) (hpl:(backTo pos (starEach es X.env)).any (·.1) = false:=by rfl):PE X (.Call (.Name x p) (e :: es) [] pos) (tCB r t):=by
 intro pins s σ H Q I h
 refine wpAny_Call_Name_kw (V7 I hg hm hv ?_ hn hdb)
 exact callWith_builtin1 (Y9 (ha pos pins s σ H _ I h) fun us s1 ⟨vs,H1,I1,r1,q1⟩ => hc pins s1 σ H1 vs us Q I1 r1 q1) he hpl
theorem Yt (hc:CallR X (.type T) r) (hg:Gl X x) (hm:X.mg x = none) (hv:bootBuiltins x = some (.type T)) (ha:PA X (e :: es) t) (hn:x ≠ "__name__" := by decide) (hdb:(x == ("__debug__" : Str)) = false:=by decide)
  (he:starEach (e :: es) X.env = (false,eval e X.env) :: starEach es X.env:=by rfl) (hpl:(backTo pos (starEach es X.env)).any (·.1) = false:=by rfl):PE X (.Call (.Name x p) (e :: es) [] pos) (tCB r t):=by
 intro pins s σ H Q I h
 refine wpAny_Call_Name_kw (V7 I hg hm hv ?_ hn hdb)
 exact callWith_type1 (Y9 (ha pos pins s σ H _ I h) fun us s1 ⟨vs,H1,I1,r1,q1⟩ => hc pins s1 σ H1 vs us Q I1 r1 q1) he hpl
end
end L2
namespace HT
open PySem PyProof.Rows
section
open PySem.SeqAt
open PySem.AutoSeq1 (wpAny_loadPart')
open PySem.MeetsSeq PySem.MeetsSeq2 PySem.MeetsSeq3
end
section
variable {prog:Program} {w:World} {A:Around} {E:Value→Shared→Prop} {s:Shared}
theorem cat_tup {t b:Addr} {vs ws:List Value} {Q:Value→Shared→Prop} (ht:IsTup s.heap t vs.toArray) (hb:IsTup s.heap b ws.toArray) (hv:vs ≠ [])
  (h1:ws = []→Q (.ref t) s) (h2:ws ≠ []→Q (.ref s.heap.objs.size) { s with heap:=s.heap.push { cls:=.type "tuple",data:=.seq (vs ++ ws).toArray } })
  (hsz:vs.length + ws.length ≤ sizeLine):wpAny (model prog w) A (binaryOp .Add (.ref t) (.ref b)) Q E s:=by
 obtain ⟨⟨cls,dd,data,sl⟩,ho,hc,n,hd⟩:=id ht
 obtain ⟨⟨cls2,dd2,data2,sl2⟩,ho2,hc2,n2,hd2⟩:=id hb
 simp only at hc hd hc2 hd2
 subst hc hd hc2 hd2
 have e:vs.toArray ++ ws.toArray = (vs ++ ws).toArray:=by simp
 by_cases hw:ws = []
 ·exact concat_meets ⟨_,ho,rfl⟩ ⟨_,ho2,rfl⟩ noFill_tuple_add seq_tuple_add PySem.F.slot_tuple_add PySem.F.entry_tuple_add (PySem.F.args_tuple_add_2 _ _)
   (tuple_addW1 t b vs.toArray ws.toArray n n2 dd dd2 sl sl2 (by simpa using hv) (by simp [hw])) ⟨ho,ho2,h1 hw⟩
 ·refine concat_meets ⟨_,ho,rfl⟩ ⟨_,ho2,rfl⟩ noFill_tuple_add seq_tuple_add PySem.F.slot_tuple_add PySem.F.entry_tuple_add (PySem.F.args_tuple_add_2 _ _)
   (tuple_addW2 t b vs.toArray ws.toArray n n2 dd dd2 sl sl2 (by simpa using hv) (by simpa using hw) (by rw [List.size_toArray,List.size_toArray]; exact hsz)) ⟨ho,ho2, ?_⟩
  rw [e]
  exact h2 hw
def Ux (n d:Nat):Option Int→Nat
 | none => d
 | some v => if v < 0 then (v + (n:Int)).toNat else min v.toNat n
theorem sIx_nat (n d k:Nat):Ux n d (some (k:Int)) = min k n:=by
 show (if (k:Int) < 0 then ((k:Int) + (n:Int)).toNat else min (k:Int).toNat n) = min k n
 rw [if_neg (by omega),Int.toNat_natCast]
theorem sIx_le (n d:Nat) (hd:d ≤ n) (o:Option Int):Ux n d o ≤ n:=by
 cases o with
 | none => exact hd
 | some v =>
  show (if v < 0 then (v + (n:Int)).toNat else min v.toNat n) ≤ n
  by_cases hv:v < 0
  ·rw [if_pos hv]; omega
  ·rw [if_neg hv]; exact Nat.min_le_right _ _
theorem clip_eq (v:Int) (n d:Nat):(if v < 0 then max (v + (n:Int)) 0 else min v (n:Int)) = ((Ux n d (some v):Nat):Int):=by
 show (if v < 0 then max (v + (n:Int)) 0 else min v (n:Int)) = (((if v < 0 then (v + (n:Int)).toNat else min v.toNat n):Nat):Int)
 by_cases hv:v < 0
 ·simp only [if_pos hv]; omega
 ·simp only [if_neg hv]; omega
theorem adjust_gen (lo hi:Option Int) (n:Nat):Builtin.Slice.sliceAdjust lo hi 1 (n:Int) = (((Ux n 0 lo:Nat):Int),((Ux n n hi:Nat):Int)):=by
 have h1:¬ ((1:Int) < 0):=by omega
 unfold Builtin.Slice.sliceAdjust
 simp only [h1,if_false]
 refine Prod.ext ?_ ?_
 ·cases lo with
  | none => rfl
  | some v => exact clip_eq v n 0
 ·cases hi with
  | none => rfl
  | some v => exact clip_eq v n n
theorem places_gen (i j:Nat):Builtin.Slice.slicePlaces (i:Int) (j:Int) 1 = j - i:=by
 unfold Builtin.Slice.slicePlaces
 have h1:(1:Int) > 0:=by omega
 simp only [h1,if_true,Int.ediv_one]
 split <;> omega
theorem slicePart_ {v:Value} {o:Option Int} {Q:Option Int→Shared→Prop} (p:IsPart v o) (h:Q o s):wpAny (model prog w) A (Builtin.Slice.slicePartIndex v) Q E s:=by
 cases p with
 | none => exact slicePart_none h
 | int i t => exact slicePart_int h
theorem sliceApplied_gen {sl:Addr} {vl vu:Value} {lo hi:Option Int} {n:Nat} {Q:Int × Int × Nat→Shared→Prop} (hs:s.heap.IsSliceOf sl vl vu .none) (pl:IsPart vl lo) (pu:IsPart vu hi)
  (h:Q (((Ux n 0 lo:Nat):Int),1,Ux n n hi - Ux n 0 lo) s):wpAny (model prog w) A (Builtin.Slice.sliceApplied (.ref sl) (pure (n:Int))) Q E s:=by
 obtain ⟨os,hos,hcs,hds⟩:=id hs
 unfold Builtin.Slice.sliceApplied Builtin.Slice.sliceFields
 refine wpAny_bind (wpAny_bind (wpAny_field hos hds (x:=vl) rfl (wpAny_bind (wpAny_field hos hds (x:=vu) rfl (wpAny_bind (wpAny_field hos hds (x:=.none) rfl (wpAny_pure ?_)))))))
 refine wpAny_bind (slicePart_none ?_)
 show wpAny _ _ (if ((1:Int) == 0) = true then _ else _) _ _ s
 rw [if_neg (by decide)]
 refine wpAny_bind (slicePart_ pl (wpAny_bind (slicePart_ pu (wpAny_bind (wpAny_pure ?_)))))
 show wpAny _ _ (match Builtin.Slice.sliceAdjust lo hi 1 (n:Int) with | (lo,hi) => pure (lo,(1:Int),Builtin.Slice.slicePlaces lo hi 1)) _ _ s
 rw [adjust_gen lo hi n]
 show wpAny _ _ (pure (((Ux n 0 lo:Nat):Int),(1:Int),Builtin.Slice.slicePlaces ((Ux n 0 lo:Nat):Int) ((Ux n n hi:Nat):Int) 1)) _ _ s
 rw [places_gen]
 exact wpAny_pure h
theorem pick_gen (xs:Array Value) (i k:Nat):((List.range k).filterMap fun (m:Nat) => xs[((i:Int) + (m:Int) * 1).toNat]?).toArray = ((xs.toList.drop i).take k).toArray:=by
 have e:(fun (m:Nat) => xs[((i:Int) + (m:Int) * 1).toNat]?) = fun m => xs[i + m]?:=by
  funext m
  have:((i:Int) + (m:Int) * 1).toNat = i + m:=by omega
  rw [this]
 rw [e]
 have:=pick_run xs i k
 rw [List.filterMap_map] at this
 have e2:((fun x => xs[x]?) ∘ fun x => i + x) = fun m => xs[i + m]?:=rfl
 rw [e2] at this
 rw [this]
theorem getItem_tuple_cut {t sl:Addr} {items:Array Value} {vl vu:Value} {lo hi:Option Int} {Q:Value→Shared→Prop} (ht:IsTup s.heap t items) (hs:s.heap.IsSliceOf sl vl vu .none) (pl:IsPart vl lo) (pu:IsPart vu hi)
  (hw:¬ (Ux items.size 0 lo = 0∧Ux items.size items.size hi = items.size))
  (h:Q (.ref s.heap.objs.size) { s with heap:=s.heap.push { cls:=.type "tuple",data:=.seq ((items.toList.drop (Ux items.size 0 lo)).take (Ux items.size items.size hi - Ux items.size 0 lo)).toArray } })
  (hsz:items.size ≤ sizeLine):wpAny (model prog w) A (getItem (.ref t) (.ref sl)) Q E s:=by
 have htake:sizeOk (.seq ((items.toList.drop (Ux items.size 0 lo)).take (Ux items.size items.size hi - Ux items.size 0 lo)).toArray):=by
  show ((items.toList.drop (Ux items.size 0 lo)).take (Ux items.size items.size hi - Ux items.size 0 lo)).toArray.size ≤ sizeLine
  rw [List.size_toArray,List.length_take,List.length_drop,Array.length_toList]
  omega
 have hj:Ux items.size items.size hi ≤ items.size:=sIx_le _ _ (Nat.le_refl _) hi
 obtain ⟨os,hos,hcs,hds⟩:=id hs
 have hTs:s.TypeIs (.ref sl) "slice" := ⟨os,hos,hcs⟩
 unfold getItem
 try with_reducible refine wpAny_holding ?_
 first | refine wpAny_bind (wpAny_pure ?_) | skip
 refine wpAny_bind (wpAny_sequenceKey ht.typeIs (by decide) ?_)
 refine wpAny_bind (wpAny_callSpecial?_slot (name:=Str.ofString "__getitem__") ht.typeIs slot_tuple_getitem
  (wpAny_call_entry slot_tuple_getitem ht.typeIs entry_tuple_getitem ?_ (args_tuple_getitem _ _)))
 show wpAny _ _ (Builtin.Tuple.tupleItemsOf (.ref t) >>= _) _ _ s
 refine wpAny_bind (tupleItemsOf_ ht ?_)
 refine wpAny_bind (wpAny_typeOf hTs ?_)
 rw [if_pos (by decide)]
 refine wpAny_bind (sliceApplied_gen hs pl pu ?_)
 have hno:¬ ((((Ux items.size 0 lo:Nat):Int) == 0 && (1:Int) == 1 && (Ux items.size items.size hi - Ux items.size 0 lo) == items.size) = true):=by
  intro q
  rw [Bool.and_eq_true,Bool.and_eq_true] at q
  have q1:((Ux items.size 0 lo:Nat):Int) = 0:=eq_of_beq q.1.1
  have q2:Ux items.size items.size hi - Ux items.size 0 lo = items.size:=eq_of_beq q.2
  exact hw ⟨by omega,by omega⟩
 show wpAny _ _ (if (((Ux items.size 0 lo:Nat):Int) == 0 && (1:Int) == 1 && (Ux items.size items.size hi - Ux items.size 0 lo) == items.size) = true then _ else _) _ _ s
 rw [if_neg hno,pick_gen]
 first
  | exact wpAny_bind (m:=Builtin.Tuple.tupleExact _) (wpAny_newObj_type (wpAny_pure ⟨_,rfl,wpAny_pure h⟩) htake)
  | exact wpAny_bind (m:=Builtin.Tuple.tupleExact _) (wpAny_newObj_type (wpAny_bind (wpAny_pure (wpAny_pure ⟨_,rfl,wpAny_pure h⟩))) htake)
  | exact wpAny_bind (wpAny_bind (m:=Builtin.Tuple.tupleExact _) (wpAny_newObj_type (wpAny_pure (wpAny_pure ⟨_,rfl,wpAny_pure h⟩)) htake))
  | exact wpAny_bind (wpAny_bind (m:=Builtin.Tuple.tupleExact _) (wpAny_newObj_type (wpAny_pure ⟨_,rfl,wpAny_pure h⟩) htake))
end
end HT
namespace L2
open PySem PySem.Spec PyProof.Rows
abbrev TO:=St→Hp→(Option Int→Hp→Prop)→Prop
def PO (X:Cx) (e:Option Expr) (t:TO):Prop :=
 ∀ (pins:List (Addr × Obj)) (s:Shared) (σ:St) (H:Hp) (Q:Option Int→Hp→Prop),Zo X pins σ H s→t σ H Q →
  wpAny (model X.prog X.w) X.A (evalPart e X.env) (fun u s' => ∃ o H',Zo X pins σ H' s'∧IsPart u o∧Q o H') X.xe s
def tNoPart:TO:=fun _ H Q => Q none H
def tPart (t:TE):TO:=fun σ H Q => t σ H fun x H1 => ∃ i,x = .int i∧Q (some i) H1
theorem intsAre_of {ns:List Int}:∀ {us:List Value},Z2 (ns.map V.int) us→IntsAre us ns:=by
 induction ns with
 | nil => intro us r; rw [List.map_nil] at r; cases r; exact .nil
 | cons n ns ih =>
  intro us r
  rw [List.map_cons] at r
  cases r with
  | cons r1 r2 =>
   obtain ⟨t,e⟩:=r1
   subst e
   exact .cons n t (ih r2)
section
variable {X:Cx} {e:Expr} {te:TE} {lo hi:Option Expr} {tl th:TO} {pos p2:Pos}
theorem po_none:PO X none tNoPart:=by
 intro pins s σ H Q I h
 rw [evalPart_none]
 exact wpAny_pure ⟨none,H,I,.none,h⟩
theorem po_some (h:PE X e te):PO X (some e) (tPart te):=by
 intro pins s σ H Q I hw
 rw [evalPart_some]
 refine Y9 (h pins s σ H _ I hw) fun u s1 ⟨x,H1,I1,r1,q1⟩ => ?_
 obtain ⟨i,rfl,q⟩:=q1
 obtain ⟨t,rfl⟩:=r1
 exact ⟨some i,H1,I1,.int i t,q⟩
def SlR (X:Cx) (r:V→Option Int→Option Int→Hp→VK→Prop):Prop :=
 ∀ (pins:List (Addr × Obj)) (s:Shared) (σ:St) (H:Hp) (x:V) (v vl vu:Value) (lo hi:Option Int) (sl:Addr) (Q:VK),Zo X pins σ H s→Z6 x v→s.heap.IsSliceOf sl vl vu .none→IsPart vl lo→IsPart vu hi→r x lo hi H Q →
  ∃ T id,typeLookup (.type T) "__getitem__" = pure (some (.builtin id))∧s.TypeIs v T∧wpAny (model X.prog X.w) X.A (getItem v (.ref sl)) (EP X pins σ Q) X.xe s
def tSl (r:V→Option Int→Option Int→Hp→VK→Prop) (te:TE) (tl th:TO):TE:=fun σ H Q => te σ H fun x H1 => tl σ H1 fun l H2 => th σ H2 fun u H3 => r x l u H3 Q
theorem pe_slice {r:V→Option Int→Option Int→Hp→VK→Prop} (hr:SlR X r) (he:PE X e te) (hl:PO X lo tl) (hu:PO X hi th):PE X (.Subscript e (.Slice lo hi none p2) pos) (tSl r te tl th):=by
 intro pins s σ H Q I h
 refine Subscript_ (Y9 (he pins s σ H _ I h) fun v s1 ⟨x,H1,I1,r1,q1⟩ => ?_)
 refine wpAny_Slice (Y9 (hl pins s1 σ H1 _ I1 q1) fun vl s2 ⟨l,H2,I2,pl,q2⟩ => Y9 (hu pins s2 σ H2 _ I2 q2) fun vu s3 ⟨u,H3,I3,pu,q3⟩ => ?_)
 rw [evalPart_none]
 refine wpAny_pure ?_
 have I4:Zo X pins σ H3 { s3 with heap:=s3.heap.push { cls:=.type "slice",data:=.fields #[vl,vu,.none] } }:=I3.kept (t':=s3.toks) fun b ob q => Heap.get?_push_of_some _ q
 obtain ⟨T,id,hT,ht,hg⟩:=hr pins { s3 with heap:=s3.heap.push { cls:=.type "slice",data:=.fields #[vl,vu,.none] } } σ H3 x v vl vu l u s3.heap.objs.size Q I4 r1 (Heap.IsSliceOf.new ..) pl pu q3
 show wpAny (model X.prog X.w) X.A (subscriptTail e (.Slice lo hi none p2) v (.ref s3.heap.objs.size)) (EP X pins σ Q) X.xe { s3 with heap:=s3.heap.push { cls:=.type "slice",data:=.fields #[vl,vu,.none] } }
 exact tail_any (ops:=[.ref s3.heap.objs.size,v]) ht hT hg (by with_unfolding_all rfl)
def Yr (xs:List V) (lo hi:Option Int):List V:=(xs.drop (HT.Ux xs.length 0 lo)).take (HT.Ux xs.length xs.length hi - HT.Ux xs.length 0 lo)
theorem cutV_length (xs:List V) (lo hi:Option Int):(Yr xs lo hi).length ≤ xs.length:=by
 unfold Yr
 rw [List.length_take,List.length_drop]
 omega
def rSlT (K:W.Frag):V→Option Int→Option Int→Hp→VK→Prop:=fun x lo hi H Q => ∃ a xs,x = .ref a∧Z9 K H a xs ∧
 ¬ (HT.Ux xs.length 0 lo = 0∧HT.Ux xs.length xs.length hi = xs.length)∧∀ p,H p = none→Q (.ref p) (Z4 H p (.tup (Yr xs lo hi)))
theorem sl_tup:SlR X (rSlT X.K):=by
 intro pins s σ H x v vl vu lo hi sl Q I rx hs pl pu h
 obtain ⟨a,xs,rfl,hx,hw,q⟩:=h
 cases rx
 obtain ⟨its,r,ht,hz⟩:=I.tuple hx
 have hlen:its.toArray.size = xs.length:=by rw [List.size_toArray]; exact r.length.symm
 refine ⟨"tuple",_,slot_tuple_getitem.lookup,ht.typeIs, ?_⟩
 refine HT.getItem_tuple_cut ht hs pl pu (by rw [hlen]; exact hw) ?_ (by rw [hlen]; exact hz)
 rw [hlen]
 refine ⟨.ref s.heap.objs.size,_,I.laid (t':=s.toks) (o:=.tup (Yr xs lo hi)) (fun b ob q => Heap.get?_push_of_some _ q) (Nat.le_refl _) ?_,rfl,q _ (I.hok.fresh (Nat.le_refl _))⟩
 exact ⟨Nat.le_trans (cutV_length xs lo hi) hz,_,(r.drop (HT.Ux xs.length 0 lo)).take (HT.Ux xs.length xs.length hi - HT.Ux xs.length 0 lo),IsTup.new _ _⟩
def rCatT (K:W.Frag):R2:=fun x y H Q => ∃ a b xs ys,x = .ref a∧y = .ref b∧Z9 K H a xs∧Z9 K H b ys∧xs ≠ []∧xs.length + ys.length ≤ sizeLine ∧
 (ys = []→Q (.ref a) H)∧(ys ≠ []→∀ p,H p = none→Q (.ref p) (Z4 H p (.tup (xs ++ ys))))
theorem Z2.nil_iff {xs:List V} {us:List Value} (r:Z2 xs us):us = [] ↔ xs = []:=by
 cases r with
 | nil => simp
 | cons _ _ => simp
theorem op_catT:OpR X (binaryOp .Add) (rCatT X.K):=by
 intro pins s σ H x y v u Q I rx ry h
 obtain ⟨a,b,xs,ys,rfl,rfl,ha,hb,hx,hz,q1,q2⟩:=h
 cases rx
 cases ry
 obtain ⟨its,r1,p1,_⟩:=I.tuple ha
 obtain ⟨its2,r2,p2,_⟩:=I.tuple hb
 refine HT.cat_tup p1 p2 (fun z => hx (r1.nil_iff.mp z)) (fun z => ⟨.ref a,H,I,rfl,q1 (r2.nil_iff.mp z)⟩) (fun z => ?_) (by rw [← r1.length, ← r2.length]; exact hz)
 refine ⟨.ref s.heap.objs.size,_,I.laid (t':=s.toks) (o:=.tup (xs ++ ys)) (fun b ob q => Heap.get?_push_of_some _ q) (Nat.le_refl _) ?_,rfl,q2 (fun w => z (r2.nil_iff.mpr w)) _ (I.hok.fresh (Nat.le_refl _))⟩
 exact ⟨by rw [List.length_append]; exact hz,_,r1.append r2,IsTup.new _ _⟩
end
def ixN (n:Nat) (i:Int):Option Nat:=if 0 ≤ i then (if i < n then some i.toNat else none) else if -(n:Int) ≤ i then some (i + n).toNat else none
def atI {α:Type} (xs:List α) (i:Int):Option α:=(ixN xs.length i).bind fun j => xs[j]?
theorem ixN_seq {n:Nat} {i:Int} {j:Nat} (h:ixN n i = some j):seqIndex? i n = some j∧j < n∧-(n:Int) ≤ i∧i < n:=by
 unfold ixN at h
 by_cases h0:0 ≤ i
 ·rw [if_pos h0] at h
  by_cases h1:i < n
  ·rw [if_pos h1] at h
   have e:i.toNat = j:=Option.some.inj h
   exact ⟨by rw [seqIndex_of h0 h1,e],by omega,by omega,h1⟩
  ·rw [if_neg h1] at h; cases h
 ·rw [if_neg h0] at h
  by_cases h1:-(n:Int) ≤ i
  ·rw [if_pos h1] at h
   have e:(i + n).toNat = j:=Option.some.inj h
   exact ⟨by rw [seqIndex_neg (by omega) h1,e],by omega,h1,by omega⟩
  ·rw [if_neg h1] at h; cases h
theorem atI_get {α:Type} {xs:List α} {i:Int} {v:α} (h:atI xs i = some v):∃ j,seqIndex? i xs.length = some j∧xs[j]? = some v∧j < xs.length∧-(xs.length:Int) ≤ i∧i < xs.length:=by
 unfold atI at h
 cases e:ixN xs.length i with
 | none => rw [e] at h; cases h
 | some j =>
  rw [e] at h
  obtain ⟨h1,h2,h3,h4⟩:=ixN_seq e
  exact ⟨j,h1,h,h2,h3,h4⟩
theorem atI_nat {α:Type} {xs:List α} {j:Nat} {v:α} (h:xs[j]? = some v):atI xs (j:Int) = some v:=by
 have hj:j < xs.length:=(List.getElem?_eq_some_iff.mp h).1
 have e:ixN xs.length (j:Int) = some j:=by
  unfold ixN
  rw [if_pos (by omega),if_pos (by omega)]; simp
 unfold atI; rw [e]; exact h
theorem atI_last {α:Type} (xs:List α) (v:α):atI (xs ++ [v]) (-1) = some v:=by
 have hl:(xs ++ [v]).length = xs.length + 1:=by simp
 have e:ixN (xs ++ [v]).length (-1) = some xs.length:=by
  unfold ixN
  rw [hl,if_neg (by decide),if_pos (by omega)]
  congr 1
  omega
 unfold atI
 rw [e]
 show (xs ++ [v])[xs.length]? = some v
 simp
def PlainIx (b:Expr):Prop:=∀ o i,subscripted b false o i = operate [o,i] (getItem o i)
def IxR (X:Cx) (r:R2):Prop :=
 ∀ (value slice:Expr) (pins:List (Addr × Obj)) (s:Shared) (σ:St) (H:Hp) (x y:V) (v u:Value) (Q:VK),Zo X pins σ H s→Z6 x v→Z6 y u→r x y H Q →
  subscripted slice false v u = operate [v,u] (getItem v u)→wpAny (model X.prog X.w) X.A (subscriptTail value slice v u) (EP X pins σ Q) X.xe s
def MtR (X:Cx) (id:String) (r:V→List V→Hp→VK→Prop):Prop :=
 ∀ (pins:List (Addr × Obj)) (s:Shared) (σ:St) (H:Hp) (x:V) (xs:List V) (v:Value) (us:List Value) (Q:VK),Zo X pins σ H s→Z6 x v→Z2 xs us→r x xs H Q →
  wpAny (model X.prog X.w) X.A (call (.builtin id) (v :: us)) (EP X pins σ Q) X.xe s
section
variable {X:Cx} {a b:Expr} {ta tb:TE} {pos:Pos}
theorem IxR.or {r r':R2} (h:IxR X r) (h':IxR X r'):IxR X (fun x y H Q => r x y H Q ∨ r' x y H Q):=by
 intro value slice pins s σ H x y v u Q I rx ry q hs
 rcases q with q | q
 ·exact h value slice pins s σ H x y v u Q I rx ry q hs
 ·exact h' value slice pins s σ H x y v u Q I rx ry q hs
theorem Zr {r:R2} (hr:IxR X r) (ha:PE X a ta) (hb:PE X b tb) (hs:PlainIx b):PE X (.Subscript a b pos) (tOp r ta tb):=by
 intro pins s σ H Q I h
 exact Subscript_ (binT ha hb I h fun v u s2 x y H2 I2 rx ry q => hr a b pins s2 σ H2 x y v u Q I2 rx ry q (hs _ _))
def rIxL (K:W.Frag):R2:=fun x y H Q => ∃ p xs i v,x = .ref p∧y = .int i∧Ym K H p xs∧atI xs i = some v∧Q v H
def rIxT (K:W.Frag):R2:=fun x y H Q => ∃ p xs i v,x = .ref p∧y = .int i∧Z9 K H p xs∧atI xs i = some v∧Q v H
def rIxS:R2:=fun x y H Q => ∃ z i c,x = .str z∧y = .int i∧z.length ≤ sizeLine∧atI z.cps.toList i = some c∧Q (.str ⟨#[c]⟩) H
theorem Yo:IxR X (rIxL X.K):=by
 intro value slice pins s σ H x y v u Q I rx ry h hs
 obtain ⟨p,xs,i,z,rfl,rfl,hq,he,q⟩:=h
 cases rx
 obtain ⟨t,rfl⟩:=ry
 obtain ⟨its,r,pl,hz⟩:=I.list hq
 obtain ⟨j,h1,h2,h3,h4,h5⟩:=atI_get he
 obtain ⟨w,ew,rw'⟩:=r.get h2
 have hl:=r.length
 have hn:=line63
 have fin:EP X pins σ Q w s:=⟨z,H,I,rw',q⟩
 by_cases h0:0 ≤ i
 ·have hj:i.toNat = j:=by
   rw [seqIndex_of h0 h5] at h1
   exact Option.some.inj h1
  exact item_listR pl.isList h0 (by omega) (by rw [hj]; simpa using ew) fin hs
 ·have hj:(i + (its.toArray.size:Int)).toNat = j:=by
   rw [seqIndex_neg (by omega) h4] at h1
   rw [List.size_toArray, ← hl]
   exact Option.some.inj h1
  exact subscriptTail_builtinR (x:=w) pl.isList.typeIs slot_list_getitem.lookup
   (wpAny_getItem_list_neg (Q:=fun r s' => r = w∧EP X pins σ Q r s') pl.isList (by omega) (by rw [List.size_toArray] <;> omega) (by omega) (by rw [hj]; simpa using ew) ⟨rfl,fin⟩) hs
theorem Zp:IxR X (rIxT X.K):=by
 intro value slice pins s σ H x y v u Q I rx ry h hs
 obtain ⟨p,xs,i,z,rfl,rfl,hq,he,q⟩:=h
 cases rx
 obtain ⟨t,rfl⟩:=ry
 obtain ⟨its,r,pl,hz⟩:=I.tuple hq
 obtain ⟨j,h1,h2,h3,h4,h5⟩:=atI_get he
 obtain ⟨w,ew,rw'⟩:=r.get h2
 have hl:=r.length
 have hn:=line63
 have fin:EP X pins σ Q w s:=⟨z,H,I,rw',q⟩
 exact subscriptTail_builtinR (x:=w) pl.typeIs slot_tuple_getitem.lookup
  (getItem_tuple (j:=j) (Q:=fun r s' => r = w∧EP X pins σ Q r s') pl (by omega) (by omega) (by rw [List.size_toArray, ← hl]; exact h1) (by simpa using ew) ⟨rfl,fin⟩) hs
theorem ix_str:IxR X rIxS:=by
 intro value slice pins s σ H x y v u Q I rx ry h hs
 obtain ⟨z,i,c,rfl,rfl,hz,he,q⟩:=h
 obtain ⟨t,rfl⟩:=rx
 obtain ⟨t',rfl⟩:=ry
 obtain ⟨j,h1,h2,h3,h4,h5⟩:=atI_get he
 have hl:z.cps.toList.length = z.length:=by simp [Str.length]
 rw [hl] at h1 h4 h5
 have hn:=line63
 exact tail_any (typeIs_str s z t) slot_str_getitem.lookup (getItem_str (c:=c) (by
  have e1:decide (i < -(2 ^ 63:Int)) = false:=decide_eq_false (by omega)
  have e2:decide (i ≥ 2 ^ 63) = false:=decide_eq_false (by omega)
  rw [e1,e2,Bool.or_false]) (by rw [h1]; simpa using h2) ⟨.str ⟨#[c]⟩,H,I.tok _,⟨_,rfl⟩,q⟩) hs
def rIx (K:W.Frag):R2:=fun x y H Q => rIxL K x y H Q ∨ rIxT K x y H Q ∨ rIxS x y H Q
theorem ix_seq:IxR X (rIx X.K):=Yo.or (Zp.or ix_str)
theorem mapSeq_set (its:List Value) (n j:Nat) (u:Value):Obj.mapSeq (·.setIfInBounds j u) { cls:=.type "list",data:=.seq its.toArray n } = { cls:=.type "list",data:=.seq (its.set j u).toArray n }:=by
 simp [Obj.mapSeq]
theorem Zo.lst {pins:List (Addr × Obj)} {σ:St} {H:Hp} {s:Shared} {p:Addr} {xs:List V} (I:Zo X pins σ H s) (h:H p = some (.lst xs)) :
  ∃ (its:List Value) (n:Nat),Z2 xs its∧s.heap.get? p = some { cls:=.type "list",data:=.seq its.toArray n }∧xs.length ≤ sizeLine:=by
 obtain ⟨z,its,n,r,e⟩:=I.hok p _ h
 exact ⟨its,n,r,e,z⟩
theorem Zo.lstUpd {pins:List (Addr × Obj)} {σ:St} {H:Hp} {s:Shared} {p:Addr} {xs ys:List V} {its its':List Value} {n n':Nat} {f:Obj→Obj} (I:Zo X pins σ H s) (h:H p = some (.lst xs))
  (ho:s.heap.get? p = some { cls:=.type "list",data:=.seq its.toArray n }) (hf:f { cls:=.type "list",data:=.seq its.toArray n } = { cls:=.type "list",data:=.seq its'.toArray n' }) (r:Z2 ys its') (hz:ys.length ≤ sizeLine) (t:Nat) :
  Zo X pins σ (Z4 H p (.lst ys)) { s with heap:=s.heap.update p f,toks:=t }:=by
 have e:(s.heap.update p f).get? p = some { cls:=.type "list",data:=.seq its'.toArray n' }:=by
  rw [Heap.get?_update_self f ho (by rw [hf] <;> rfl),hf]
 refine I.write (x:=p) (e:=p) (by rw [h]; trivial) (.inl rfl) (fun b u hb q => (Heap.get?_update_other _ _ (Ne.symm hb)).trans q) ⟨_,e⟩ ?_
 exact ⟨hz,its',n',r,e⟩
def rSetL:V→V→V→Hp→(Hp→Prop)→Prop:=fun o i v H Q => ∃ p xs k j,o = .ref p∧i = .int k∧H p = some (.lst xs)∧ixN xs.length k = some j∧Q (Z4 H p (.lst (xs.set j v)))
theorem set_list:PSet X rSetL:=by
 intro pins s σ H o i v ov iv u Q I ro ri rv h
 obtain ⟨p,xs,k,j,rfl,rfl,hp,hj,q⟩:=h
 cases ro
 obtain ⟨t,rfl⟩:=ri
 obtain ⟨its,n,r,ho,hz⟩:=I.lst hp
 obtain ⟨h1,h2,h3,h4⟩:=ixN_seq hj
 have hl:=r.length
 have hn:=line63
 have I':Zo X pins σ (Z4 H p (.lst (xs.set j v))) { s with heap:=s.heap.update p (Obj.mapSeq (·.setIfInBounds j u)) } :=
  I.lstUpd hp ho (mapSeq_set its n j u) (r.set rv j) (by rw [List.length_set]; exact hz) s.toks
 by_cases h0:0 ≤ k
 ·have hk:k.toNat = j:=by
   rw [seqIndex_of h0 h4] at h1
   exact Option.some.inj h1
  exact W.ki_setAt ho h0 (by omega) (by rw [List.size_toArray, ← hl]; exact h4) (by rw [hk]; exact ⟨_,I',q⟩)
 ·have hk:(k + (its.toArray.size:Int)).toNat = j:=by
   rw [seqIndex_neg (by omega) h3] at h1
   rw [List.size_toArray, ← hl]
   exact Option.some.inj h1
  exact W.ki_setBack ho (by omega) (by rw [List.size_toArray, ← hl]; exact h3) (by omega) (by rw [hk]; exact ⟨_,I',q⟩)
theorem slice_bounds (lo hi:Option Int) (n:Nat):(sliceBounds lo hi none n).1 = ((HT.Ux n 0 lo:Nat):Int)∧(sliceBounds lo hi none n).2.1 = ((HT.Ux n n hi:Nat):Int)∧(sliceBounds lo hi none n).2.2 = 1:=by
 refine ⟨?_, ?_,rfl⟩
 ·cases lo with
  | none => simp [sliceBounds,HT.Ux]
  | some i =>
   simp only [sliceBounds,HT.Ux,Option.getD_none,show (1:Int) > 0 by decide,if_true]
   by_cases h:i < 0
   ·simp only [h,if_true] <;> omega
   ·simp only [h,if_false] <;> omega
 ·cases hi with
  | none => simp [sliceBounds,HT.Ux]
  | some i =>
   simp only [sliceBounds,HT.Ux,Option.getD_none,show (1:Int) > 0 by decide,if_true]
   by_cases h:i < 0
   ·simp only [h,if_true] <;> omega
   ·simp only [h,if_false] <;> omega
theorem slicePick_cut (its:List Value) (lo hi:Option Int):slicePick its.toArray lo hi none = ((its.drop (HT.Ux its.length 0 lo)).take (HT.Ux its.length its.length hi - HT.Ux its.length 0 lo)).toArray:=by
 obtain ⟨h1,h2,h3⟩:=slice_bounds lo hi its.toArray.size
 unfold slicePick
 rw [h1,h2,h3]
 simp only [sliceRange_one,pick_run,List.size_toArray] <;> rfl
def rSlL (K:W.Frag):V→Option Int→Option Int→Hp→VK→Prop:=fun x lo hi H Q => ∃ a xs,x = .ref a∧Ym K H a xs∧∀ p,H p = none→Q (.ref p) (Z4 H p (.lst (Yr xs lo hi)))
theorem sl_list:SlR X (rSlL X.K):=by
 intro pins s σ H x v vl vu lo hi sl Q I rx hs pl pu h
 obtain ⟨a,xs,rfl,hx,q⟩:=h
 cases rx
 obtain ⟨its,r,ht,hz⟩:=I.list hx
 have hlen:=r.length
 refine ⟨"list",_,slot_list_getitem.lookup,ht.isList.typeIs, ?_⟩
 refine wpAny_getItem_list_slice ht.isList hs pl pu .none (by simp) ?_ (by rw [List.size_toArray] <;> omega)
 rw [slicePick_cut, ← hlen]
 refine ⟨.ref s.heap.objs.size,_,I.laid (t':=s.toks) (o:=.lst (Yr xs lo hi)) (fun b ob q => Heap.get?_push_of_some _ q) (Nat.le_refl _) ?_,rfl,q _ (I.hok.fresh (Nat.le_refl _))⟩
 exact ⟨Nat.le_trans (cutV_length xs lo hi) hz,_,0,(r.drop (HT.Ux xs.length 0 lo)).take (HT.Ux xs.length xs.length hi - HT.Ux xs.length 0 lo),Heap.get?_push_size _ rfl⟩
def flatV:V→Bool
 | .non => true
 | .bl _ => true
 | .int _ => true
 | .str _ => true
 | _ => false
def eqV:V→V→Bool
 | .non,.non => true
 | .bl a,.bl b => a == b
 | .bl a,.int b => (if a then 1 else 0) == b
 | .int a,.bl b => a == (if b then 1 else 0)
 | .int a,.int b => a == b
 | .str a,.str b => a == b
 | _,_ => false
theorem eqAt_V {A:Around} {s:Shared} {y x:V} {u v:Value} (ry:Z6 y u) (rx:Z6 x v) (fy:flatV y = true) (fx:flatV x = true):SeqAt.EqAt A s u v (eqV y x):=by
 cases y with
 | non =>
  cases ry
  cases x with
  | non => cases rx; exact SeqAt.EqAt.same _
  | bl b => cases rx; exact SeqAt.EqAt.none_bool b
  | int b => obtain ⟨t,rfl⟩:=rx; exact SeqAt.EqAt.none_int b t
  | str b => obtain ⟨t,rfl⟩:=rx; exact SeqAt.EqAt.none_str b t
  | _ => exact absurd (show false = true from fx) Bool.false_ne_true
 | bl a =>
  cases ry
  cases x with
  | non => cases rx; exact SeqAt.EqAt.bool_none a
  | bl b => cases rx; exact SeqAt.EqAt.bool_bool a b
  | int b => obtain ⟨t,rfl⟩:=rx; exact SeqAt.EqAt.bool_int a b t
  | str b => obtain ⟨t,rfl⟩:=rx; exact SeqAt.EqAt.bool_str a b t
  | _ => exact absurd (show false = true from fx) Bool.false_ne_true
 | int a =>
  obtain ⟨t',rfl⟩:=ry
  cases x with
  | non => cases rx; exact SeqAt.EqAt.int_none a t'
  | bl b => cases rx; exact SeqAt.EqAt.int_bool a t' b
  | int b => obtain ⟨t,rfl⟩:=rx; exact SeqAt.EqAt.int_int a t' b t
  | str b => obtain ⟨t,rfl⟩:=rx; exact SeqAt.EqAt.int_str a t' b t
  | _ => exact absurd (show false = true from fx) Bool.false_ne_true
 | str a =>
  obtain ⟨t',rfl⟩:=ry
  cases x with
  | non => cases rx; exact SeqAt.EqAt.str_none a t'
  | bl b => cases rx; exact SeqAt.EqAt.str_bool a t' b
  | int b => obtain ⟨t,rfl⟩:=rx; exact SeqAt.EqAt.str_int a t' b t
  | str b => obtain ⟨t,rfl⟩:=rx; exact SeqAt.EqAt.str_str a t' b t
  | _ => exact absurd (show false = true from fx) Bool.false_ne_true
 | _ => exact absurd (show false = true from fy) Bool.false_ne_true
def eqU (x:V) (u:Value):Bool:=match u with
 | .none => eqV .non x
 | .bool b => eqV (.bl b) x
 | .int i _ => eqV (.int i) x
 | .str z _ => eqV (.str z) x
 | _ => false
theorem eqU_of {x y:V} {u:Value} (r:Z6 y u) (f:flatV y = true):eqU x u = eqV y x:=by
 cases y with
 | non => cases r; rfl
 | bl b => cases r; rfl
 | int i => obtain ⟨t,rfl⟩:=r; rfl
 | str z => obtain ⟨t,rfl⟩:=r; rfl
 | _ => exact absurd (show false = true from f) Bool.false_ne_true
theorem any_eqU {x:V}:∀ {xs:List V} {us:List Value},Z2 xs us→xs.all flatV = true→us.any (eqU x) = xs.any fun y => eqV y x
 | _,_,.nil,_ => rfl
 | y :: xs,u :: us,.cons r t,f => by
  rw [List.all_cons,Bool.and_eq_true] at f
  rw [List.any_cons,List.any_cons,eqU_of r f.1,any_eqU t f.2]
theorem mem_eqAt {A:Around} {s:Shared} {x:V} {v:Value} (rx:Z6 x v) (fx:flatV x = true):∀ {xs:List V} {us:List Value},Z2 xs us→xs.all flatV = true→∀ u ∈ us,SeqAt.EqAt A s u v (eqU x u)
 | _,_,.nil,_ => fun u hu => by cases hu
 | y :: xs,u :: us,.cons r t,f => fun u' hu => by
  rw [List.all_cons,Bool.and_eq_true] at f
  rcases List.mem_cons.mp hu with rfl | hu
  ·rw [eqU_of r f.1]; exact eqAt_V r rx f.1 fx
  ·exact mem_eqAt rx fx t f.2 u' hu
def inV (x:V) (xs:List V):Bool:=xs.any fun y => eqV y x
def rIn (K:W.Frag) (neg:Bool):R2:=fun x y H Q => ∃ p xs,y = .ref p∧(Ym K H p xs ∨ Z9 K H p xs)∧flatV x = true∧xs.all flatV = true∧Q (.bl (if neg then !inV x xs else inV x xs)) H
theorem op_in_seq:OpR X (compareOp .In) (rIn X.K false):=by
 intro pins s σ H x y v u Q I rx ry h
 obtain ⟨p,xs,rfl,hq,fx,fs,q⟩:=h
 cases ry
 rcases hq with hq | hq
 ·obtain ⟨its,r,pl,hz⟩:=I.list hq
  refine SeqAt.in_listAt (eqU x) pl.isList (fun w hw => mem_eqAt rx fx r fs w (by simpa using hw)) ⟨.bl _,H,I,rfl, ?_⟩
  rw [show its.toArray.any (eqU x) = its.any (eqU x) by simp,any_eqU r fs]
  exact q
 ·obtain ⟨its,r,pl,hz⟩:=I.tuple hq
  refine SeqAt.in_tupleAt (eqU x) pl (fun w hw => mem_eqAt rx fx r fs w (by simpa using hw)) ⟨.bl _,H,I,rfl, ?_⟩
  rw [show its.toArray.any (eqU x) = its.any (eqU x) by simp,any_eqU r fs]
  exact q
theorem Yg:CallR X (.builtin "len") (fun xs H Q => ∃ p ys,xs = [.ref p]∧(Ym X.K H p ys ∨ Z9 X.K H p ys)∧Q (.int ys.length) H):=by
 intro pins s σ H xs us Q I r h
 obtain ⟨p,ys,rfl,hq,q⟩:=h
 obtain ⟨u,rfl,rx⟩:=vals1 r
 cases rx
 have hn:=line63
 rcases hq with hq | hq
 ·obtain ⟨its,r',pl,hz⟩:=I.list hq
  have hlen:=r'.length
  exact Calls.call_len_list pl.isList (by simp only [List.size_toArray] <;> omega) ⟨.int ys.length,H,I.tok _,⟨s.toks + 1,by rw [List.size_toArray,hlen]⟩,q⟩
 ·obtain ⟨its,r',pl,hz⟩:=I.tuple hq
  have hlen:=r'.length
  exact len_tuple pl (by simp only [List.size_toArray] <;> omega) ⟨.int ys.length,H,I.tok _,⟨s.toks + 1,by rw [List.size_toArray,hlen]⟩,q⟩
theorem call_len_str:CallR X (.builtin "len") (fun xs H Q => ∃ z,xs = [.str z]∧z.length ≤ sizeLine∧Q (.int z.length) H):=by
 intro pins s σ H xs us Q I r h
 obtain ⟨z,rfl,hz,q⟩:=h
 obtain ⟨u,rfl,t,rfl⟩:=vals1 r
 have hn:=line63
 exact len_str (by omega) ⟨.int z.length,H,I.tok _,⟨_,rfl⟩,q⟩
theorem call_list_of:CallR X (.type "list") (fun xs H Q => ∃ p ys,xs = [.ref p]∧(Ym X.K H p ys ∨ Z9 X.K H p ys)∧∀ l,H l = none→Q (.ref l) (Z4 H l (.lst ys))):=by
 intro pins s σ H xs us Q I r h
 obtain ⟨p,ys,rfl,hq,q⟩:=h
 obtain ⟨u,rfl,rx⟩:=vals1 r
 cases rx
 have fin:∀ (its:List Value),Z2 ys its→ys.length ≤ sizeLine→∀ (h':Heap) (c':Nat),(∀ b o',s.heap.get? b = some o'→h'.get? b = some o') →
   h'.get? s.heap.objs.size = some { cls:=.type "list",dict:=none,data:=.seq its.toArray c',slots:=#[] }→EP X pins σ Q (.ref s.heap.objs.size) { s with heap:=h' }:=fun its r' hz h' c' kp e =>
  ⟨.ref s.heap.objs.size,_,I.laid (t':=s.toks) kp (Nat.le_refl _) (show Vm X.prog X.w _ h' _ (.lst ys) from ⟨hz,its,c',r',e⟩),rfl,q _ (I.hok.fresh (Nat.le_refl _))⟩
 rcases hq with hq | hq
 ·obtain ⟨its,r',pl,hz⟩:=I.list hq
  have hlen:=r'.length
  obtain ⟨o,ho,hc,n,hd⟩:=pl.isList
  exact call_list_seq p (.inl rfl) ho hc hd (fun h' c' kp e => fin its r' hz h' c' kp e) (by simp only [List.size_toArray] <;> omega)
 ·obtain ⟨its,r',pl,hz⟩:=I.tuple hq
  have hlen:=r'.length
  obtain ⟨o,ho,hc,n,hd⟩:=pl
  exact call_list_seq p (.inr rfl) ho hc hd (fun h' c' kp e => fin its r' hz h' c' kp e) (by simp only [List.size_toArray] <;> omega)
theorem Yc:CallR X (.type "tuple") (fun xs H Q => ∃ p ys,xs = [.ref p]∧((Ym X.K H p ys∧∀ l,H l = none→Q (.ref l) (Z4 H l (.tup ys))) ∨ (Z9 X.K H p ys∧Q (.ref p) H))):=by
 intro pins s σ H xs us Q I r h
 obtain ⟨p,ys,rfl,h⟩:=h
 obtain ⟨u,rfl,rx⟩:=vals1 r
 cases rx
 rcases h with ⟨hq,q⟩ | ⟨hq,q⟩
 ·obtain ⟨its,r',pl,hz⟩:=I.list hq
  have hlen:=r'.length
  refine call_tuple_list pl.isList (fun h' kp => ?_) (by simp only [List.size_toArray] <;> omega)
  have I1:Zo X pins σ H { s with heap:=h' }:=I.kept (t':=s.toks) kp
  have I2:Zo X pins σ (Z4 H h'.objs.size (.tup ys)) { s with heap:=h'.push { cls:=.type "tuple",data:=.seq its.toArray } } :=
   I1.laid (t':=s.toks) (fun b o e => Heap.get?_push_of_some _ e) (Nat.le_refl _) (show Vm X.prog X.w _ _ _ (.tup ys) from ⟨hz,its,r',IsTup.new _ _⟩)
  exact ⟨.ref h'.objs.size,_,I2,rfl,q _ (I1.hok.fresh (Nat.le_refl _))⟩
 ·obtain ⟨its,r',pl,hz⟩:=I.tuple hq
  exact call_tuple_same pl ⟨.ref p,H,I,rfl,q⟩
def tyV (K:W.Frag) (T:String) (x:V) (H:Hp):Prop:=match x with
 | .str _ => T = "str"
 | .int _ => T = "int"
 | .ref p => (T = "list" ∧ ∃ xs,Ym K H p xs) ∨ (T = "tuple" ∧ ∃ o,K.lookup p = some o∧o.cls = .type "tuple" ∧ o.dict = none) ∨
   (T = "dict" ∧ ((∃ kvs,H p = some (.dK kvs)) ∨ ∃ kvs,H p = some (.dT kvs))) ∨ (T = "set" ∧ ∃ S n,H p = some (.set S n))
 | _ => False
theorem tyV_is {pins:List (Addr × Obj)} {σ:St} {H:Hp} {s:Shared} {T:String} {x:V} {v:Value} (I:Zo X pins σ H s) (r:Z6 x v) (ty:tyV X.K T x H) :
  s.TypeIs v T∧∀ a,v = .ref a→∃ ob,s.heap.get? a = some ob∧ob.dict = none:=by
 cases x with
 | str z =>
  obtain ⟨t,rfl⟩:=r
  cases (show T = "str" from ty)
  exact ⟨typeIs_str s z t,fun _ e => nomatch e⟩
 | int i =>
  obtain ⟨t,rfl⟩:=r
  cases (show T = "int" from ty)
  exact ⟨typeIs_int s i t,fun _ e => nomatch e⟩
 | ref p =>
  cases r
  rcases ty with ⟨rfl,xs,hq⟩ | ⟨rfl,o,hk,hc,hd⟩ | ⟨rfl,hk⟩ | ⟨rfl,S,n,hk⟩
  ·obtain ⟨its,_,pl,_⟩:=I.list hq
   refine ⟨pl.isList.typeIs,fun a e => ?_⟩
   cases e
   obtain ⟨o,n,e,c,hd,_⟩:=pl
   exact ⟨o,e,hd⟩
  ·refine ⟨⟨o,I.kIn p o hk,hc⟩,fun a e => ?_⟩
   cases e
   exact ⟨o,I.kIn _ o hk,hd⟩
  ·have z:∃ o,s.heap.get? p = some o∧o.ExactDict:=by
    rcases hk with ⟨kvs,hk⟩ | ⟨kvs,hk⟩
    ·obtain ⟨_,_,_,_,o,_,_,e,ex,_⟩:=I.hok p _ hk
     exact ⟨o,e,ex⟩
    ·obtain ⟨_,_,_,_,o,_,_,e,ex,_⟩:=I.hok p _ hk
     exact ⟨o,e,ex⟩
   obtain ⟨o,e,ex⟩:=z
   refine ⟨⟨o,e,ex.1⟩,fun a e2 => ?_⟩
   cases e2
   exact ⟨o,e,ex.2.1⟩
  ·obtain ⟨o,_,_,_,e,ex,_⟩:=I.hok p _ hk
   refine ⟨⟨o,e,ex.1⟩,fun a e2 => ?_⟩
   cases e2
   exact ⟨o,e,ex.2.1⟩
 | _ => exact False.elim ty
def tBM (K:W.Frag) (T:String) (r:V→List V→Hp→VK→Prop) (to:TE) (t:TA):TE:=fun σ H Q => to σ H fun x H1 => tyV K T x H1∧t σ H1 fun xs H2 => r x xs H2 Q
variable {o e:Expr} {es:List Expr} {to:TE} {t:TA} {name:Str} {apos cpos:Pos} {T id:String} {r:V→List V→Hp→VK→Prop}
theorem pe_bm (pa:PlainAttrs T) (slot:Slot T name id) (hty:typeOf (.builtin id) = pure (.type "method_descriptor")) (hm:MtR X id r) (ho:PE X o to) (ha:PA X (e :: es) t)
  (hbase:attributeBase o name X.env (eval o X.env) = eval o X.env:=by rfl)
  (hfew:((backTo cpos (starEach (e :: es) X.env)).all (fun x => !x.1) && (backToKw cpos (keywordEach [] X.env)).all (fun x => x.1.isSome)
   && decide ((e :: es).length + ([]:List Keyword).length + (if ([]:List Keyword).isEmpty then 0 else 1) < 30)) = true:=by rfl)
  (hline:(apos.endLine == cpos.line) = true:=by rfl) (hs:starEach (e :: es) X.env = (false,eval e X.env) :: starEach es X.env:=by rfl) (hplain:(backTo cpos (starEach es X.env)).any (·.1) = false:=by rfl) :
  PE X (.Call (.Attribute o name apos) (e :: es) [] cpos) (tBM X.K T r to t):=by
 intro pins s σ H Q I h
 refine wpAny_Call_method_late hbase hfew hline rfl (Y9 (ho pins s σ H _ I h) fun v s1 ⟨x,H1,I1,r1,ty,q1⟩ => ?_)
 obtain ⟨h1,h2⟩:=tyV_is I1 r1 ty
 refine ⟨T,id,pa,slot,hty,h1,h2, ?_⟩
 have hA:=ha cpos pins s1 σ H1 _ I1 q1
 rw [hs] at hA ⊢
 refine Calls.callWith_builtin (by show (false || (backTo cpos (starEach es X.env)).any (·.1)) = false; rw [hplain] <;> rfl) (Calls.evalArgs_plain ?_)
 exact Y9 hA fun us s2 ⟨vs,H2,I2,r2,q2⟩ => hm pins s2 σ H2 x vs v us Q I2 r1 r2 q2
end
def MtM (X:Cx) (id:String) (r:V→List V→Hp→VK→Prop):Prop :=
 ∀ (pins:List (Addr × Obj)) (s:Shared) (σ:St) (H:Hp) (x:V) (xs:List V) (v:Value) (us:List Value) (Q:VK),Zo X pins σ H s→Z6 x v→Z2 xs us→r x xs H Q →
  wpAny (model X.prog X.w) X.A (call (.builtin id) (v :: us)) (EP X pins σ Q) X.xe s
theorem Z2.one:∀ {x:V} {us:List Value},Z2 [x] us→∃ u,us = [u]∧Z6 x u
 | _,_,.cons r .nil => ⟨_,rfl,r⟩
theorem Z2.two:∀ {x y:V} {us:List Value},Z2 [x,y] us→∃ u v,us = [u,v]∧Z6 x u∧Z6 y v
 | _,_,_,.cons r (.cons q .nil) => ⟨_,_,rfl,r,q⟩
theorem Z2.zero:∀ {us:List Value},Z2 [] us→us = []
 | _,.nil => rfl
theorem Z2.reverse {xs:List V} {us:List Value} (h:Z2 xs us):Z2 xs.reverse us.reverse:=by
 induction h with
 | nil => exact .nil
 | cons r t ih => rw [List.reverse_cons,List.reverse_cons]; exact Z2.append ih (.cons r .nil)
section
variable {X:Cx} {pins:List (Addr × Obj)} {σ:St} {H:Hp} {s:Shared} {l b:Addr} {xs ys zs:List V}
theorem Zo.lset {its its':List Value} {n:Nat} {f:Array Value→Array Value} {t':Nat} (I:Zo X pins σ H s) (hH:H l = some (.lst xs))
  (e:s.heap.get? l = some { cls:=.type "list",data:=.seq its.toArray n }) (hf:f its.toArray = its'.toArray) (hv:Z2 ys its') (hz:ys.length ≤ sizeLine) :
  Zo X pins σ (Z4 H l (.lst ys)) { s with heap:=s.heap.update l (Obj.mapSeq f),toks:=t' }:=by
 have q:=PySem.IsL.update e f
 rw [hf] at q
 refine I.write (x:=l) (e:=l) (by rw [hH]; exact trivial) (.inl rfl) (fun b' u hb hu => (Heap.get?_update_other s.heap (Obj.mapSeq f) (Ne.symm hb)).trans hu) ⟨_,q⟩ ?_
 exact ⟨hz,its',_,hv,q⟩
theorem Zo.lnew {its:List Value} {t':Nat} (I:Zo X pins σ H s) (hv:Z2 ys its) (hz:ys.length ≤ sizeLine) :
  Zo X pins σ (Z4 H s.heap.objs.size (.lst ys)) { s with heap:=s.heap.push { cls:=.type "list",data:=.seq its.toArray },toks:=t' } :=
 I.laid (fun _ _ q => Heap.get?_push_of_some _ q) (Nat.le_refl _) ⟨hz,its,0,hv,Heap.get?_push_size _ rfl⟩
theorem Zo.fresh (I:Zo X pins σ H s):H s.heap.objs.size = none:=I.hok.fresh (Nat.le_refl _)
theorem Zo.lstM (I:Zo X pins σ H s) (hH:H l = some (.lst xs)):xs.length ≤ sizeLine∧∃ (its:List Value) (n:Nat),Z2 xs its∧xs.length = its.length∧s.heap.get? l = some { cls:=.type "list",data:=.seq its.toArray n }:=by
 obtain ⟨z,its,n,r,e⟩:=I.hok l _ hH
 exact ⟨z,its,n,r,r.length,e⟩
theorem notLongL {n:Nat} (h:n ≤ sizeLine):Builtin.List.listTooLong n = false:=by
 unfold Builtin.List.listTooLong
 exact decide_eq_false (by omega)
end
section
variable {X:Cx}
def rAppend:V→List V→Hp→VK→Prop:=fun x vs H Q => ∃ l xs y,x = .ref l∧vs = [y]∧H l = some (.lst xs)∧xs.length < sizeLine∧Q .non (Z4 H l (.lst (xs ++ [y])))
theorem Uq:MtM X "list.append" rAppend:=by
 intro pins s σ H x vs v us Q I rx rv h
 obtain ⟨l,xs,y,rfl,rfl,hH,hz,q⟩:=h
 cases rx
 obtain ⟨u,rfl,ru⟩:=rv.one
 obtain ⟨z,its,n,r,hl,e⟩:=I.lstM hH
 refine call_meets F.slot_list_append ⟨_,e,rfl⟩ F.entry_list_append (F.args_list_append_2 _ _) (PySem.list_append l its.toArray n u (by rw [List.size_toArray]; omega)) ⟨e, ?_⟩
 refine ⟨.non,_,I.lset (its':=its ++ [u]) hH e (by simp) (r.append (.cons ru .nil)) ?_,rfl,q⟩
 rw [List.length_append,List.length_singleton]
 omega
def rExtend:V→List V→Hp→VK→Prop:=fun x vs H Q => ∃ l b xs zs,x = .ref l∧vs = [.ref b]∧H l = some (.lst xs)∧H b = some (.lst zs)∧xs.length + zs.length ≤ sizeLine∧Q .non (Z4 H l (.lst (xs ++ zs)))
theorem mt_extend:MtM X "list.extend" rExtend:=by
 intro pins s σ H x vs v us Q I rx rv h
 obtain ⟨l,b,xs,zs,rfl,rfl,hH,hB,hz,q⟩:=h
 cases rx
 obtain ⟨u,rfl,ru⟩:=rv.one
 cases ru
 obtain ⟨z,its,n,r,hl,e⟩:=I.lstM hH
 obtain ⟨z2,its2,n2,r2,hl2,e2⟩:=I.lstM hB
 have hsz:its.toArray.size + its2.toArray.size ≤ sizeLine:=by rw [List.size_toArray,List.size_toArray]; omega
 have hlong:¬ (!its.toArray.isEmpty && Builtin.List.listTooLong (its.toArray.size + its2.toArray.size)) = true:=by
  rw [notLongL hsz,Bool.and_false]
  exact Bool.false_ne_true
 refine call_meets F.slot_list_extend ⟨_,e,rfl⟩ F.entry_list_extend (F.args_list_extend_2 _ _)
  (AutoSeq1.list_extend_list_list_0 l its.toArray n b its2.toArray n2 hlong (by rw [List.size_toArray]; omega) (by omega)) ⟨e,e2, ?_⟩
 refine ⟨.non,_,I.lset (its':=its ++ its2) hH e (by simp) (r.append r2) ?_,rfl,q⟩
 rw [List.length_append]
 omega
def rCat:R2:=fun x y H Q => ∃ l b xs zs,x = .ref l∧y = .ref b∧H l = some (.lst xs)∧H b = some (.lst zs)∧xs.length + zs.length ≤ sizeLine∧∀ p,H p = none→Q (.ref p) (Z4 H p (.lst (xs ++ zs)))
theorem op_cat:OpR X (binaryOp .Add) rCat:=by
 intro pins s σ H x y v u Q I rx ry h
 obtain ⟨l,b,xs,zs,rfl,rfl,hH,hB,hz,q⟩:=h
 cases rx
 cases ry
 obtain ⟨z,its,n,r,hl,e⟩:=I.lstM hH
 obtain ⟨z2,its2,n2,r2,hl2,e2⟩:=I.lstM hB
 refine PySem.P.add_list e e2 ?_ (by rw [List.size_toArray,List.size_toArray]; omega)
 have ea:its.toArray ++ its2.toArray = (its ++ its2).toArray:=by simp
 rw [ea]
 exact ⟨.ref _,_,I.lnew (t':=s.toks) (r.append r2) (by rw [List.length_append]; omega),rfl,q _ I.fresh⟩
end
section
variable {prog:Program} {w:World} {A:Around} {E:Value→Shared→Prop} {s:Shared}
end
section
variable {X:Cx}
end
end L2
namespace Att
open PySem PySem.W PySem.Calls PyProof.Rows
theorem ints_of_wellAll {P:Params} {h:Heap}:∀ (ns:List Int) (vs:List Value),WellAll P h vs (ns.map WData.int)→IntsAre vs ns:=by
 intro ns
 induction ns with
 | nil =>
  intro vs w
  rw [List.map_nil] at w
  cases w
  exact .nil
 | cons n ns ih =>
  intro vs w
  rw [List.map_cons] at w
  cases w with
  | cons a b =>
   cases a
   exact .cons _ _ (ih _ b)
theorem script_of {l:OpenLaw} {n:Nat} (hn:l.most = some n) {P:Params} {h:Heap} {args:List WData} {vals:List Value}
  (hpre:l.row.toRowW.claim.pre args = true) (hwl:WellAll P h vals args) :
  ∃ a vs ns,vals = [Value.ref a]∧args = [WData.list (ns.map WData.int)]∧h.get? a = some { cls:=.type "list",data:=.seq vs.toArray }∧IntsAre vs ns∧ns.length ≤ n:=by
 have hsh:WShape.hasAll [] args [.list .int] = true:=(pre_splitW hpre).1
 have hc:l.pre.holds [] { args:=args } = true:=(pre_splitW hpre).2
 obtain ⟨d,r,rfl,h1,h2⟩:=hasAllW_cons hsh
 obtain rfl:=hasAllW_nil h2
 obtain ⟨xs,rfl,h3⟩:=hasW_list h1
 obtain ⟨ns,rfl⟩:=items_int h3
 have hlen:ns.length ≤ n:=by
  unfold OpenLaw.pre at hc
  have h4:(WTm.not (.lt (.lit (.int (n:Int))) (.len (.arg 0)))).holds [] { args:=[.list (ns.map .int)] } = true:=by
   have h4:=(holds_andW hc).1
   rw [hn] at h4
   exact h4
  have h5:=condW_of h4 (w_not (w_lt w_lit (w_len_list (w_arg rfl))))
  rw [List.length_map] at h5
  refine Nat.le_of_not_lt fun q => ?_
  have q':(n:Int) < ((ns.length:Nat):Int):=by omega
  first
   | (rw [decide_eq_true q'] at h5; exact absurd h5 (by decide))
   | (simp at h5; omega)
 cases hwl with
 | cons w1 w2 =>
  cases w2
  cases w1 with
  | list ho hall => exact ⟨_,_,ns,rfl,rfl,ho,ints_of_wellAll ns _ hall,hlen⟩
theorem post_true (l:OpenLaw) (args:List WData):l.row.toRowW.claim.post args (.bool true) args = true :=
 postW_of (r:=l.row.toRowW) (X:=(true == true))
  (show WShape.has [] (.bool true) .bool = true by first | rfl | decide | simp [WShape.has,WShape.arms,WShape.armsAll])
  (show (WTm.eq .res (.lit (.bool true))).value [] { args:=args,res:=some (.bool true),after:=args } = some (.bool (true == true)) from w_eq_bool (w_res rfl) w_lit) rfl
theorem attach_call {l:OpenLaw} {n:Nat} {q:Program} {loose:List Str} {XP:(Str→Option Value)→Heap→Prop} {YP:World→Heap→Prop} {d:DefRec}
  (hn:l.most = some n) (hdf:d.params.defaults = [])
  (call:∀ (w:World) (s₀ s₁:Shared) (mg mb:Str→Option Value) (fa:Addr) (o:Obj) (pm cd doc:Value) (a:Addr) (vs:List Value) (ns:List Int),
   Ground q loose [] XP w s₀ mg mb s₁.heap→YP w s₁.heap →
   s₁.heap.get? fa = some o→o.data = .func (docDef d.name d.params d.body d.scope pm cd doc)→s₁.heap.CodeRec cd d.name→mg d.name = some (.ref fa) →
   s₁.heap.get? a = some { cls:=.type "list",data:=.seq vs.toArray }→IntsAre vs ns→ns.length ≤ n→s₁.gens = #[] →
   codeAny (model l.prog w) callerA (.call (.ref fa) ⟨[.ref a],[]⟩) (fun r s' => r = .ok (.ret (.bool true))∧OldK s₁.heap s'.heap∧s'.os = s₁.os∧AllBare s'.gens) s₁) :
  WalkO q loose XP YP l.row.toRowW d [] (fun f vs => PySem.call f vs):=by
 intro w s₀ s₁ mg mb G Y fa o pm cd doc dV kV ho hd hcd hD hmg hg args vals as hpre hlay hrd hwl hlo
 obtain rfl:dV = .none:=Dflts.none hD hdf
 obtain rfl:kV = .none:=Dflts.noKw hD
 obtain ⟨a,vs,ns,rfl,rfl,hobj,hints,hlen⟩:=script_of hn hpre hwl
 refine enter_call (codeAny_mono (call w s₀ s₁ mg mb fa o pm cd doc a vs ns G Y ho (fd_plain hd) hcd hmg hobj hints hlen hg) fun r s' hq => ?_)
 obtain ⟨rfl,h2,h3,h4⟩:=hq
 exact ⟨.inl ⟨.bool true,.bool true,[],rfl,fun _ => rfl,.bool true,post_true l _,fun _ => ⟨List.Pairwise.nil,fun _ hm => (nomatch hm)⟩⟩,h2,h3,h4⟩
section
variable {prog:Program} {w:World} {A:Around} {E:Value→Shared→Prop} {s:Shared} {K:Frag}
end
end Att
namespace L2
open PySem PySem.Spec PyProof.Rows
theorem vals_ints:∀ {vs:List Value} {ns:List Int},IntsAre vs ns→Z2 (ns.map V.int) vs
 | _,_,.nil => .nil
 | _,_,.cons n t h => .cons ⟨t,rfl⟩ (vals_ints h)
def Only (H:Hp):Prop:=∀ b,H b = none ∨ ∃ o xs,H b = some (.frz o (.lst xs))
theorem law_call {P:Program} {w:World} {K:W.Frag} {mg mb:Str→Option Value} {CX:CXT} {k:Nat} {fa a:Addr} {fd:FuncData} {x:Str} {sp:Sp} {s₁:Shared} {vs:List Value} {ns:List Int}
  (KX:K.In s₁.heap) (hns:s₁.heap.Ns mainGlobals mg) (hb:s₁.heap.Ns builtinsNs mb) (hbb:∀ x:Str,x ≠ "__name__" → mb x = bootBuiltins x) (hlim:s₁.heap.NoLimit) (hg:s₁.gens = #[])
  (ha:s₁.heap.get? a = some { cls:=.type "list",data:=.seq vs.toArray }) (hi:IntsAre vs ns) (hl:ns.length ≤ sizeLine) (hr:Vl k callerA)
  (F:∀ base:Heap,K.In base→base.Ns mainGlobals mg→Yy P w K mg base CX k fa fd [x] sp) (hbind:∀ (s:Shared) (u:Value),BindsTo s fd ⟨[u],[]⟩ [(x,u)])
  (hsp:∀ H:Hp,Only H→Ym K H a (ns.map V.int)→sp [.ref a] H (fun v _ => v = .bl true) fun _ _ _ => False)
  (hCX:∀ H e s',CX [] H s₁ (fun _ _ _ => False) e s'→False) :
  codeAny (model P w) callerA (.call (.ref fa) ⟨[.ref a],[]⟩) (fun r s' => r = .ok (.ret (.bool true))∧OldK s₁.heap s'.heap∧s'.os = s₁.os∧AllBare s'.gens) s₁:=by
 have rv:=vals_ints hi
 have lenV:=hi.length
 have core:∀ H:Hp,Only H→Ym K H a (ns.map V.int)→HOk P w H s₁.heap→(∀ b,H b ≠ none→b = a)→(H a ≠ none→K.lookup a = none) →
   codeAny (model P w) callerA (.call (.ref fa) ⟨[.ref a],[]⟩) (fun r s' => r = .ok (.ret (.bool true))∧OldK s₁.heap s'.heap∧s'.os = s₁.os∧AllBare s'.gens) s₁:=by
  intro H hO hS hok hA hK
  have base_of:∀ {b:Addr} {o:Obj},s₁.heap.get? b = some o→H b = none→(hidT s₁.heap H).get? b = some o:=fun e n => hidT_get e n
  have noA:∀ {b:Addr} {o:Obj} {es:Array DictEntry} {ep:Nat},s₁.heap.get? b = some o→o.data = .dict es ep→H b = none:=fun {b o es ep} e d => by
   cases q:H b with
   | none => rfl
   | some u =>
    have e':b = a:=hA b (by rw [q]; simp)
    subst e'
    rw [ha] at e; cases e
    have d':Data.seq vs.toArray _ = Data.dict es ep:=d
    cases d'
  have nsK:∀ {b:Addr} {m:Str→Option Value},s₁.heap.Ns b m→(hidT s₁.heap H).Ns b m:=fun {b m} ⟨o,es,ep,e,d,r⟩ => ⟨o,es,ep,base_of e (noA e d),d,r⟩
  have hKb:K.In (hidT s₁.heap H):=fun b o e => base_of (KX b o e) (by
   cases q:H b with
   | none => rfl
   | some u =>
    have e':b = a:=hA b (by rw [q]; simp)
    subst e'
    rw [hK (by rw [q]; simp)] at e; cases e)
  have hM:Mod K mg (hidT s₁.heap H):=⟨hKb,nsK hns,⟨mb,nsK hb,hbb⟩,let ⟨mc,h1,h2⟩:=hlim; ⟨mc,nsK h1,h2⟩⟩
  have e0:Env0 P w K mg (hidT s₁.heap H) callerA [] s₁ H:=⟨rfl,hM,fun b o e => of_hidT e,Nat.le_of_eq (hidT_size _ _),trivial,fun b hb => absurd (show b ∈ ([]:List Addr) from hb) (by simp),hok,.of_eq hg⟩
  refine codeAny_mono ((F _ hKb (nsK hns)).run callerA [] s₁ H ⟨[.ref a],[]⟩ [.ref a] [.ref a] _ _ hr e0 (hbind s₁ (.ref a)) (.cons rfl .nil) (hsp H hO hS)) fun r s' h => ?_
  cases r with
  | error e => exact (hCX H e s' h).elim
  | ok fl =>
   cases fl with
   | next => exact False.elim h
   | brk => exact False.elim h
   | cont => exact False.elim h
   | ret u =>
    obtain ⟨v,H',os,bare,un,hok',r',q⟩:=h
    have q':v = .bl true:=q
    subst q'
    obtain rfl:u = Value.bool true:=r'
    refine ⟨rfl,OldK.of_keep fun b o e => ?_,os,bare⟩
    cases q:H b with
    | none => exact un.keep b o e q (by intro z; exact absurd (show b ∈ ([]:List Addr) from z) (by simp)) (by simp)
    | some u =>
     rcases hO b with z | ⟨ob,xs,z⟩
     ·rw [q] at z; cases z
     ·have z2:=un.frzs b ob _ z
      obtain ⟨e1,_⟩:=hok b _ z
      obtain ⟨e2,_⟩:=hok' b _ z2
      rw [e] at e1; cases e1
      exact e2
 cases hk:K.lookup a with
 | some o =>
  have e:=KX a o hk
  rw [ha] at e
  cases e
  refine core (fun _ => none) (fun _ => .inl rfl) (.inr ⟨_,vs.toArray,_,hk,rfl,rfl,rfl,by rw [List.size_toArray,lenV]; exact hl,by simpa using rv⟩) (fun b u z => by have z':(none:Option HO) = some u:=z; cases z') (fun b z => absurd rfl z) fun z => absurd rfl z
 | none =>
  refine core (fun b => if b = a then some (.frz { cls:=.type "list",data:=.seq vs.toArray } (.lst (ns.map V.int))) else none) (fun b => ?_) (.inl (.inr ⟨{ cls:=.type "list",data:=.seq vs.toArray },if_pos rfl⟩)) (fun b u z => ?_) (fun b z => ?_) fun _ => hk
  ·by_cases hb:b = a
   ·exact .inr ⟨_,_,if_pos hb⟩
   ·exact .inl (if_neg hb)
  ·by_cases hb:b = a
   ·have z':=(if_pos hb).symm.trans z
    cases z'
    subst hb
    exact ⟨ha,by rw [List.length_map]; exact hl,vs,_,rv,ha⟩
   ·have z':=(if_neg hb).symm.trans z
    cases z'
  ·by_cases hb:b = a
   ·exact hb
   ·exact absurd (if_neg hb) z
theorem walk_of {l:W.OpenLaw} {n k:Nat} {q:Program} {loose:List Str} {XP:(Str→Option Value)→Heap→Prop} {YP:World→Heap→Prop} {d:DefRec} {K:Params→W.Frag} {CX:World→CXT} {sp:World→Sp} {x:Str}
  (hn:l.most = some n) (hn2:n ≤ sizeLine) (hdf:d.params.defaults = []) (hr:Vl k callerA)
  (hY:∀ (w:World) (h:Heap),YP w h→(K w.params).In h)
  (F:∀ (w:World) (mg:Str→Option Value) (fa:Addr) (h:Heap),(K w.params).In h→h.Ns mainGlobals mg→mg d.name = some (.ref fa) →
   ∃ fd:FuncData,(∀ (s:Shared) (u:Value),BindsTo s fd ⟨[u],[]⟩ [(x,u)]) ∧
    ∀ base:Heap,(K w.params).In base→base.Ns mainGlobals mg→Yy l.prog w (K w.params) mg base (CX w) k fa fd [x] (sp w))
  (hsp:∀ (w:World) (H:Hp) (a:Addr) (ns:List Int),ns.length ≤ n→Only H→Ym (K w.params) H a (ns.map V.int)→sp w [.ref a] H (fun v _ => v = .bl true) fun _ _ _ => False)
  (hCX:∀ (w:World) (H:Hp) (s:Shared) (e:Value) (s':Shared),CX w [] H s (fun _ _ _ => False) e s'→False) :
  W.WalkO q loose XP YP l.row.toRowW d [] (fun f vs => PySem.call f vs):=by
 refine Att.attach_call hn hdf fun w s₀ s₁ mg mb fa o pm cd doc a vs ns G Y ho hd hcd hmg hobj hints hlen hg => ?_
 have KX:=hY w _ Y
 obtain ⟨fd,hb,hF⟩:=F w mg fa _ KX G.T.g hmg
 exact law_call KX G.T.g G.T.b G.T.builtins G.T.nolimit hg hobj hints (Nat.le_trans hlen hn2) hr hF hb (fun H hO hS => hsp w H a ns hlen hO hS) fun H e s' => hCX w H s₁ e s'
abbrev Um:CXT:=fun _ _ _ _ _ _ => False
abbrev E0:XK:=fun _ _ _ => False
theorem pass0 {X:Cx}:Passes Um X E0:=fun _ _ _ _ _ _ _ h => h.elim
structure Uj (K:W.Frag) (x qual:Str) (st:Stmt) (f:Addr) (fd:FuncData):Prop where
 ex:∃ (oc:Value) (od:Option Addr) (kV doc pm:Value) (an:Option Addr) (cdv ct:Value) (osl:Array (Option Value)),
  fd = W.fnOf x qual (defArgs st) (defBody st) (Zk st) .none kV doc pm an cdv ct∧K.lookup f = some ⟨oc,od,.func fd,osl⟩∧W.codeIn K cdv qual = true
 kp:W.keepIn K (.ref f) = true
section
variable {P:Program} {w:World} {K:W.Frag} {mg:Str→Option Value} {base:Heap}
theorem Uj.ok {x qual:Str} {st:Stmt} {f:Addr} {fd:FuncData} {N ps:List Str} {k:Nat} {sp:Sp} (F:Uj K x qual st f fd) (S:Zs N ps (Zk st)) (len:∀ vs H Q E,sp vs H Q E→vs.length = ps.length)
  (hbody:∀ (cdv:Value) (A:Around) (outer:List Env) (s:Shared) (H:Hp) (vs:List V) (Q:VK) (E:XK),Vl k (A.deeper (envOfC qual (Zk st) s.heap.objs.size f cdv))→sp vs H Q E →
   ∃ t,PSs (cxOf Um P w K mg base N qual (Zk st) f cdv A outer s H E).nox (defBody st) t∧t { nx:=fun _ H' => Q .non H',rt:=Q } (start N vs) H):Yy P w K mg base Um (k + 1) f fd ps sp:=by
 obtain ⟨oc,od,kV,doc,pm,an,cdv,ct,osl,rfl,lk,hcd⟩:=F.ex
 refine fn_of lk hcd S len fun A outer s H vs Q E hr hsp => ?_
 obtain ⟨t,h,q⟩:=hbody cdv A outer s H vs Q E hr hsp
 exact ⟨t,h.nox,q⟩
theorem Uj.binds {x qual:Str} {st:Stmt} {f:Addr} {fd:FuncData} {ps:List Str} (F:Uj K x qual st f fd)
  (h:∀ (kV doc pm:Value) (an:Option Addr) (cdv ct:Value) (us:List Value),us.length = ps.length→bindArgs (W.fnOf x qual (defArgs st) (defBody st) (Zk st) .none kV doc pm an cdv ct) ⟨us,[]⟩ = pure (ps.zip us)):Binds K fd ps []:=by
 obtain ⟨oc,od,kV,doc,pm,an,cdv,ct,osl,rfl,lk,hcd⟩:=F.ex
 exact .all (h kV doc pm an cdv ct)
theorem Ze {x qual:Str} {st:Stmt} {f:Addr} {oc:Value} {od an:Option Addr} {osl:Array (Option Value)} {kV doc pm cdv ct:Value} (l:K.lookup f = some ⟨oc,od,.func (W.fnOf x qual (defArgs st) (defBody st) (Zk st) .none kV doc pm an cdv ct),osl⟩)
  (c:W.codeIn K cdv qual = true) (k:W.keepIn K (.ref f) = true):Uj K x qual st f (W.fnOf x qual (defArgs st) (defBody st) (Zk st) .none kV doc pm an cdv ct):=⟨⟨oc,od,kV,doc,pm,an,cdv,ct,osl,rfl,l,c⟩,k⟩
end
theorem Vv {n:Nat} (h:n ≤ 1000):n < sizeLine:=Nat.lt_of_le_of_lt h (by decide)
theorem sz (n:Nat) (h:n ≤ sizeLine:=by decide):n ≤ sizeLine:=h
theorem Vl.m {j k:Nat} {A:Around} (r:Vl k A) (h:j ≤ k:=by omega):Vl j A:=r.mono h
section
variable {X:Cx}
theorem pv (i:Nat) {x:Str} {pos:Pos} (hN:X.N[i]? = some x:=by rfl) (hv:Vis X.env.scope x:=by first | exact Or.inl rfl | exact Or.inr (Or.inl rfl) | exact Or.inr (Or.inr rfl)) (hd:(x == ("__debug__" : Str)) = false:=by decide)
  (hcd:(x == ("__classdict__" : Str)) = false:=by decide):PE X (.Name x pos) (tVar i):=pe_var hN hv hd hcd
end
theorem iteF {A B:Prop} (h:B):if false = true then A else B:=by
 rw [if_neg Bool.false_ne_true]
 exact h
theorem iteT {A B:Prop} (h:A):if true = true then A else B:=by
 rw [if_pos rfl]
 exact h
theorem ite2 {c A B:Prop} [Decidable c] (h1:c→A) (h2:¬ c→B):if c then A else B:=by
 by_cases h:c
 ·rw [if_pos h]
  exact h1 h
 ·rw [if_neg h]
  exact h2 h
def Zb (H H':Hp):Prop:=∀ b o,H b = some o→H' b = some o
theorem Zb.refl (H:Hp):Zb H H:=fun _ _ h => h
theorem Zb.trans {H H1 H2:Hp} (a:Zb H H1) (b:Zb H1 H2):Zb H H2:=fun c o h => b c o (a c o h)
theorem Zb.free {H H':Hp} (e:Zb H H') {l:Addr} (h:H' l = Option.none):H l = Option.none:=by
 cases q:H l with
 | none => rfl
 | some o =>
  rw [e l o q] at h
  cases h
theorem Zb.seq {K:W.Frag} {H H':Hp} {a:Addr} {xs:List V} (e:Zb H H') (h:Ym K H a xs):Ym K H' a xs:=by
 rcases h with (h | ⟨o,h⟩) | h
 ·exact .inl (.inl (e _ _ h))
 ·exact .inl (.inr ⟨o,e _ _ h⟩)
 ·exact .inr h
inductive D where
 | non | bl (b:Bool) | int (i:Int) | str (x:Str) | tup (xs:List D) | lst (xs:List D)
mutual
def Yv (K:W.Frag) (H:Hp):D→V→Prop
 | .non,v => v = .non
 | .bl b,v => v = .bl b
 | .int i,v => v = .int i
 | .str x,v => v = .str x
 | .tup ds,v => ∃ a vs,v = .ref a∧Z9 K H a vs∧Zn K H ds vs
 | .lst ds,v => ∃ a vs,v = .ref a∧Ym K H a vs∧Zn K H ds vs
def Zn (K:W.Frag) (H:Hp):List D→List V→Prop
 | [],vs => vs = []
 | d :: ds,vs => ∃ v r,vs = v :: r∧Yv K H d v∧Zn K H ds r
end
mutual
def eqD:D→D→Bool
 | .non,.non => true
 | .bl a,.bl b => a == b
 | .bl a,.int b => (if a then 1 else 0) == b
 | .int a,.bl b => a == (if b then 1 else 0)
 | .int a,.int b => a == b
 | .str a,.str b => a == b
 | .tup xs,.tup ys => eqDs xs ys
 | .lst xs,.lst ys => eqDs xs ys
 | _,_ => false
def eqDs:List D→List D→Bool
 | [],[] => true
 | x :: xs,y :: ys => eqD x y && eqDs xs ys
 | _,_ => false
end
mutual
def dpD:D→Nat
 | .tup xs => dpDs xs + 1
 | .lst xs => dpDs xs + 1
 | _ => 0
def dpDs:List D→Nat
 | [] => 0
 | d :: ds => max (dpD d) (dpDs ds)
end
mutual
theorem eqD_refl:∀ d:D,eqD d d = true
 | .non => rfl
 | .bl b => by simp [eqD]
 | .int b => by simp [eqD]
 | .str b => by simp [eqD]
 | .tup xs => by simp only [eqD]; exact eqDs_refl xs
 | .lst xs => by simp only [eqD]; exact eqDs_refl xs
theorem eqDs_refl:∀ d:List D,eqDs d d = true
 | [] => rfl
 | x :: xs => by simp only [eqDs,eqD_refl x,eqDs_refl xs,Bool.and_self]
end
theorem Zn.length {K:W.Frag} {H:Hp}:∀ {ds:List D} {vs:List V},Zn K H ds vs→ds.length = vs.length
 | [],vs,h => by
  have e:vs = []:=h
  subst e
  rfl
 | d :: ds,vs,h => by
  obtain ⟨v,r,e,_,h2⟩:=(show ∃ v r,vs = v :: r∧Yv K H d v∧Zn K H ds r from h)
  rw [e,List.length_cons,List.length_cons,Zn.length h2]
theorem Zn.get {K:W.Frag} {H:Hp}:∀ {ds:List D} {vs:List V} {i:Nat} {d:D},Zn K H ds vs→ds[i]? = some d→∃ v,vs[i]? = some v∧Yv K H d v
 | [],vs,i,d,_,e => by simp at e
 | d :: ds,vs,0,d',h,e => by
  obtain ⟨v,r,rfl,h1,_⟩:=(show ∃ v r,vs = v :: r∧Yv K H d v∧Zn K H ds r from h)
  simp at e; subst e
  exact ⟨v,rfl,h1⟩
 | d :: ds,vs,i + 1,d',h,e => by
  obtain ⟨v,r,rfl,_,h2⟩:=(show ∃ v r,vs = v :: r∧Yv K H d v∧Zn K H ds r from h)
  obtain ⟨v',e1,h3⟩:=Zn.get (i:=i) h2 (by simpa using e)
  exact ⟨v',by simpa using e1,h3⟩
theorem dpDs_mem:∀ {ds:List D} {d:D},d ∈ ds→dpD d ≤ dpDs ds
 | d :: ds,d',h => by
  simp only [dpDs]
  rcases List.mem_cons.mp h with e | h
  ·subst e; omega
  ·have:=dpDs_mem h; omega
theorem Vi:∀ ds es:List D,((List.range (min ds.length es.length)).all (fun j => eqD (ds.getD j .non) (es.getD j .non)) && ds.length == es.length) = eqDs ds es
 | [],[] => rfl
 | [],e :: es => by simp [eqDs]
 | d :: ds,[] => by simp [eqDs]
 | d :: ds,e :: es => by
  have ih:=Vi ds es
  have e1:min (d :: ds).length (e :: es).length = min ds.length es.length + 1:=by simp only [List.length_cons]; omega
  rw [e1,List.range_succ_eq_map]
  simp only [List.all_cons,List.all_map,eqDs, ← ih,List.length_cons,List.getD_cons_zero]
  have e2:((ds.length + 1 == es.length + 1):Bool) = (ds.length == es.length):=by
   rw [Bool.eq_iff_iff]; simp
  rw [e2,Bool.and_assoc]
  rfl
section
variable {X:Cx} {pins:List (Addr × Obj)} {σ:St} {H:Hp} {s:Shared}
theorem Zo.not_both (I:Zo X pins σ H s) {a:Addr} {xs ys:List V} (h:Ym X.K H a xs) (h':Z9 X.K H a ys):False:=by
 obtain ⟨its,r,⟨o,n,e,c,_⟩,_⟩:=I.list h
 obtain ⟨its',r',⟨o',e',c',_⟩,_⟩:=I.tuple h'
 rw [e] at e'; cases e'
 rw [c] at c'
 injection c' with c''
 exact absurd c'' (by decide)
mutual
theorem Yv.inj (I:Zo X pins σ H s):∀ (d e:D) (v:V),Yv X.K H d v→Yv X.K H e v→d = e
 | .non,e,v,h,h' => by
  have q:v = .non:=h
  subst q
  cases e with
  | non => rfl
  | tup _ => obtain ⟨_,_,z,_⟩:=h'; cases z
  | lst _ => obtain ⟨_,_,z,_⟩:=h'; cases z
  | _ => cases (show V.non = _ from h')
 | .bl b,e,v,h,h' => by
  have q:v = .bl b:=h
  subst q
  cases e with
  | bl c => cases (show V.bl b = V.bl c from h'); rfl
  | tup _ => obtain ⟨_,_,z,_⟩:=h'; cases z
  | lst _ => obtain ⟨_,_,z,_⟩:=h'; cases z
  | _ => cases (show V.bl b = _ from h')
 | .int b,e,v,h,h' => by
  have q:v = .int b:=h
  subst q
  cases e with
  | int c => cases (show V.int b = V.int c from h'); rfl
  | tup _ => obtain ⟨_,_,z,_⟩:=h'; cases z
  | lst _ => obtain ⟨_,_,z,_⟩:=h'; cases z
  | _ => cases (show V.int b = _ from h')
 | .str b,e,v,h,h' => by
  have q:v = .str b:=h
  subst q
  cases e with
  | str c => cases (show V.str b = V.str c from h'); rfl
  | tup _ => obtain ⟨_,_,z,_⟩:=h'; cases z
  | lst _ => obtain ⟨_,_,z,_⟩:=h'; cases z
  | _ => cases (show V.str b = _ from h')
 | .tup ds,e,v,h,h' => by
  obtain ⟨a,vs,rfl,q,ar⟩:=(show ∃ a vs,v = .ref a∧Z9 X.K H a vs∧Zn X.K H ds vs from h)
  cases e with
  | tup es =>
   obtain ⟨a',ws,z,q',ar'⟩:=(show ∃ a' vs,V.ref a = .ref a'∧Z9 X.K H a' vs∧Zn X.K H es vs from h')
   cases z
   have e:=I.tuple_inj q q'
   subst e
   rw [Zn.inj I ds es vs ar ar']
  | lst es =>
   obtain ⟨a',ws,z,q',ar'⟩:=(show ∃ a' vs,V.ref a = .ref a'∧Ym X.K H a' vs∧Zn X.K H es vs from h')
   cases z
   exact (I.not_both q' q).elim
  | non => cases (show V.ref a = _ from h')
  | bl _ => cases (show V.ref a = _ from h')
  | int _ => cases (show V.ref a = _ from h')
  | str _ => cases (show V.ref a = _ from h')
 | .lst ds,e,v,h,h' => by
  obtain ⟨a,vs,rfl,q,ar⟩:=(show ∃ a vs,v = .ref a∧Ym X.K H a vs∧Zn X.K H ds vs from h)
  cases e with
  | lst es =>
   obtain ⟨a',ws,z,q',ar'⟩:=(show ∃ a' vs,V.ref a = .ref a'∧Ym X.K H a' vs∧Zn X.K H es vs from h')
   cases z
   have e:=I.list_inj q q'
   subst e
   rw [Zn.inj I ds es vs ar ar']
  | tup es =>
   obtain ⟨a',ws,z,q',ar'⟩:=(show ∃ a' vs,V.ref a = .ref a'∧Z9 X.K H a' vs∧Zn X.K H es vs from h')
   cases z
   exact (I.not_both q q').elim
  | non => cases (show V.ref a = _ from h')
  | bl _ => cases (show V.ref a = _ from h')
  | int _ => cases (show V.ref a = _ from h')
  | str _ => cases (show V.ref a = _ from h')
theorem Zn.inj (I:Zo X pins σ H s):∀ (ds es:List D) (vs:List V),Zn X.K H ds vs→Zn X.K H es vs→ds = es
 | [],es,vs,h,h' => by
  have q:vs = []:=h
  subst q
  cases es with
  | nil => rfl
  | cons e es => obtain ⟨_,_,z,_⟩:=h'; cases z
 | d :: ds,es,vs,h,h' => by
  obtain ⟨v,r,rfl,h1,h2⟩:=(show ∃ v r,vs = v :: r∧Yv X.K H d v∧Zn X.K H ds r from h)
  cases es with
  | nil => cases (show v :: r = [] from h')
  | cons e es =>
   obtain ⟨v',r',z,h1',h2'⟩:=(show ∃ v' r',v :: r = v' :: r'∧Yv X.K H e v'∧Zn X.K H es r' from h')
   cases z
   rw [Yv.inj I d e v h1 h1',Zn.inj I ds es r h2 h2']
end
def flD:D→Option V
 | .non => some .non
 | .bl b => some (.bl b)
 | .int i => some (.int i)
 | .str x => some (.str x)
 | _ => none
theorem Yv.flat {K:W.Frag} {d:D} {x v:V} (e:flD d = some x) (h:Yv K H d v):v = x∧flatV x = true:=by
 cases d with
 | non => cases e; exact ⟨h,rfl⟩
 | bl b => cases e; exact ⟨h,rfl⟩
 | int i => cases e; exact ⟨h,rfl⟩
 | str q => cases e; exact ⟨h,rfl⟩
 | tup q => cases e
 | lst q => cases e
theorem flD_cases {d:D} {x:V} (h:flD d = some x):(d = .non∧x = .non) ∨ (∃ b,d = .bl b∧x = .bl b) ∨ (∃ i,d = .int i∧x = .int i) ∨ ∃ q,d = .str q∧x = .str q:=by
 cases d with
 | non => cases h; exact .inl ⟨rfl,rfl⟩
 | bl b => cases h; exact .inr (.inl ⟨b,rfl,rfl⟩)
 | int i => cases h; exact .inr (.inr (.inl ⟨i,rfl,rfl⟩))
 | str q => cases h; exact .inr (.inr (.inr ⟨q,rfl,rfl⟩))
 | tup q => cases h
 | lst q => cases h
theorem eqD_flat {d e:D} {x y:V} (h:flD d = some x) (h':flD e = some y):eqD d e = eqV x y:=by
 rcases flD_cases h with ⟨rfl,rfl⟩ | ⟨_,rfl,rfl⟩ | ⟨_,rfl,rfl⟩ | ⟨_,rfl,rfl⟩ <;> rcases flD_cases h' with ⟨rfl,rfl⟩ | ⟨_,rfl,rfl⟩ | ⟨_,rfl,rfl⟩ | ⟨_,rfl,rfl⟩ <;> rfl
theorem Ye {xs:List V} {us:List Value} (r:Z2 xs us) {j:Nat} (h:j < us.length) {x:V} (e:xs[j]? = some x):Z6 x us[j]:=by
 obtain ⟨u,e1,q⟩:=r.get e
 rw [List.getElem?_eq_getElem h] at e1
 cases e1
 exact q
theorem eqAt_fT {es:List D} {a:Addr} {x:V} {u:Value} {A:Around} {its:Array Value} {d:D} (h:flD d = some x) (rx:Z6 x u) (ht:IsTup s.heap a its) (hu2:A.units < cLine):SeqAt.EqAt A s u (.ref a) (eqD d (.tup es)):=by
 rcases flD_cases h with ⟨rfl,rfl⟩ | ⟨b,rfl,rfl⟩ | ⟨b,rfl,rfl⟩ | ⟨b,rfl,rfl⟩
 ·cases rx; exact SeqAt.EqAt.none_tuple ht hu2
 ·cases rx; exact SeqAt.EqAt.bool_tuple b ht hu2
 ·obtain ⟨t,rfl⟩:=rx; exact SeqAt.EqAt.int_tuple b t ht hu2
 ·obtain ⟨t,rfl⟩:=rx; exact SeqAt.EqAt.str_tuple b t ht hu2
theorem eqAt_fL {es:List D} {a:Addr} {x:V} {u:Value} {A:Around} {its:Array Value} {d:D} (h:flD d = some x) (rx:Z6 x u) (ht:s.heap.IsList a its) (hu2:A.units < cLine):SeqAt.EqAt A s u (.ref a) (eqD d (.lst es)):=by
 rcases flD_cases h with ⟨rfl,rfl⟩ | ⟨b,rfl,rfl⟩ | ⟨b,rfl,rfl⟩ | ⟨b,rfl,rfl⟩
 ·cases rx; exact SeqAt.EqAt.none_list ht hu2
 ·cases rx; exact SeqAt.EqAt.bool_list b ht hu2
 ·obtain ⟨t,rfl⟩:=rx; exact SeqAt.EqAt.int_list b t ht hu2
 ·obtain ⟨t,rfl⟩:=rx; exact SeqAt.EqAt.str_list b t ht hu2
theorem eqAt_Tf {es:List D} {a:Addr} {x:V} {u:Value} {A:Around} {its:Array Value} {d:D} (h:flD d = some x) (rx:Z6 x u) (ht:IsTup s.heap a its) (hu2:A.units < cLine):SeqAt.EqAt A s (.ref a) u (eqD (.tup es) d):=by
 rcases flD_cases h with ⟨rfl,rfl⟩ | ⟨b,rfl,rfl⟩ | ⟨b,rfl,rfl⟩ | ⟨b,rfl,rfl⟩
 ·cases rx; exact SeqAt.EqAt.tuple_none ht hu2
 ·cases rx; exact SeqAt.EqAt.tuple_bool b ht hu2
 ·obtain ⟨t,rfl⟩:=rx; exact SeqAt.EqAt.tuple_int b t ht hu2
 ·obtain ⟨t,rfl⟩:=rx; exact SeqAt.EqAt.tuple_str b t ht hu2
theorem eqAt_Lf {es:List D} {a:Addr} {x:V} {u:Value} {A:Around} {its:Array Value} {d:D} (h:flD d = some x) (rx:Z6 x u) (ht:s.heap.IsList a its) (hu2:A.units < cLine):SeqAt.EqAt A s (.ref a) u (eqD (.lst es) d):=by
 rcases flD_cases h with ⟨rfl,rfl⟩ | ⟨b,rfl,rfl⟩ | ⟨b,rfl,rfl⟩ | ⟨b,rfl,rfl⟩
 ·cases rx; exact SeqAt.EqAt.list_none ht hu2
 ·cases rx; exact SeqAt.EqAt.list_bool b ht hu2
 ·obtain ⟨t,rfl⟩:=rx; exact SeqAt.EqAt.list_int b t ht hu2
 ·obtain ⟨t,rfl⟩:=rx; exact SeqAt.EqAt.list_str b t ht hu2
theorem flD_none {d:D} (h:flD d = none):(∃ ds,d = .tup ds) ∨ ∃ ds,d = .lst ds:=by
 cases d with
 | non => cases h
 | bl b => cases h
 | int i => cases h
 | str q => cases h
 | tup q => exact .inl ⟨q,rfl⟩
 | lst q => exact .inr ⟨q,rfl⟩
def EqIn (A:Around) (s:Shared) (K:W.Frag) (H:Hp) (ds:List D):Prop:=∀ d ∈ ds,∀ (e:D) (x y:V) (u v:Value),Yv K H d x→Yv K H e y→Z6 x u→Z6 y v→SeqAt.EqAt A s u v (eqD d e)
theorem EqIn.at {A:Around} {K:W.Frag} {ds es:List D} {vs vs':List V} {its its':List Value} (E:EqIn A s K H ds) (ar:Zn K H ds vs) (ar':Zn K H es vs') (r:Z2 vs its) (r':Z2 vs' its') {j:Nat} (h1:j < its.toArray.size) (h2:j < its'.toArray.size) (j1:j < ds.length) (j2:j < es.length) :
  SeqAt.EqAt A s its.toArray[j] its'.toArray[j] (eqD (ds.getD j .non) (es.getD j .non)):=by
 obtain ⟨x1,g1,i1⟩:=ar.get (List.getElem?_eq_getElem j1)
 obtain ⟨y1,g2,i2⟩:=ar'.get (List.getElem?_eq_getElem j2)
 have d1:ds.getD j .non = ds[j]:=by simp [j1]
 have d2:es.getD j .non = es[j]:=by simp [j2]
 rw [d1,d2]
 exact E _ (List.getElem_mem j1) _ x1 y1 _ _ i1 i2 (Ye r (by simpa using h1) g1) (Ye r' (by simpa using h2) g2)
theorem eqAt_TT (I:Zo X pins σ H s) {ds es:List D} {a a':Addr} {vs vs':List V} {A:Around} (q:Z9 X.K H a vs) (ar:Zn X.K H ds vs) (q':Z9 X.K H a' vs') (ar':Zn X.K H es vs') (hne:a ≠ a') (E:EqIn A.in1 s X.K H ds) (hu2:A.units < cLine) :
  SeqAt.EqAt A s (.ref a) (.ref a') (eqD (.tup ds) (.tup es)):=by
 obtain ⟨its,r,ht,_⟩:=I.tuple q
 obtain ⟨its',r',ht',_⟩:=I.tuple q'
 have l1:its.toArray.size = ds.length:=by rw [List.size_toArray, ← r.length, ← ar.length]
 have l2:its'.toArray.size = es.length:=by rw [List.size_toArray, ← r'.length, ← ar'.length]
 have main:=SeqAt.RcAt.tuples (A:=A) (e:=fun j => eqD (ds.getD j .non) (es.getD j .non)) ht ht' hu2 (fun j h1 h2 => E.at ar ar' r r' h1 h2 (by omega) (by omega))
 rw [l1,l2,Vi] at main
 exact SeqAt.EqAt.of_refs hne main
theorem eqAt_LL (I:Zo X pins σ H s) {ds es:List D} {a a':Addr} {vs vs':List V} {A:Around} (q:Ym X.K H a vs) (ar:Zn X.K H ds vs) (q':Ym X.K H a' vs') (ar':Zn X.K H es vs') (hne:a ≠ a') (E:EqIn A.in1 s X.K H ds) (hu2:A.units < cLine) :
  SeqAt.EqAt A s (.ref a) (.ref a') (eqD (.lst ds) (.lst es)):=by
 obtain ⟨its,r,hp,_⟩:=I.list q
 obtain ⟨its',r',hp',_⟩:=I.list q'
 have l1:its.toArray.size = ds.length:=by rw [List.size_toArray, ← r.length, ← ar.length]
 have l2:its'.toArray.size = es.length:=by rw [List.size_toArray, ← r'.length, ← ar'.length]
 by_cases hl:ds.length = es.length
 ·have main:=SeqAt.RcAt.lists (A:=A) (e:=fun j => eqD (ds.getD j .non) (es.getD j .non)) hp.isList hp'.isList (by omega) hu2 (fun j h1 h2 => E.at ar ar' r r' h1 h2 (by omega) (by omega))
  have al:=Vi ds es
  rw [← hl,Nat.min_self,beq_self_eq_true,Bool.and_true] at al
  rw [l1,al] at main
  exact SeqAt.EqAt.of_refs hne main
 ·have main:=SeqAt.RcAt.lists_lengths (A:=A) hp.isList hp'.isList (by rw [l1,l2]; simpa using hl) hu2
  have al:=Vi ds es
  have hf:(ds.length == es.length) = false:=by simpa using hl
  rw [hf,Bool.and_false] at al
  have z:eqD (D.lst ds) (D.lst es) = eqDs ds es:=by simp only [eqD]
  rw [z, ← al]
  exact SeqAt.EqAt.of_refs hne main
theorem eqAt_refs (I:Zo X pins σ H s) {d e:D} {x y:V} {u v:Value} {A:Around} (hfd:flD d = none) (hfe:flD e = none) (hd:Yv X.K H d x) (he:Yv X.K H e y) (rx:Z6 x u) (ry:Z6 y v) (E:∀ ds,d = .tup ds ∨ d = .lst ds→EqIn A.in1 s X.K H ds) (hu2:A.units < cLine) :
  SeqAt.EqAt A s u v (eqD d e):=by
 by_cases hxy:x = y
 ·subst hxy
  have ee:=Yv.inj I d e x hd he
  subst ee
  rw [eqD_refl]
  have uv:u = v:=by
   rcases flD_none hfd with ⟨ds,rfl⟩ | ⟨ds,rfl⟩
   ·obtain ⟨a,_,rfl,_⟩:=hd; cases rx; cases ry; rfl
   ·obtain ⟨a,_,rfl,_⟩:=hd; cases rx; cases ry; rfl
  subst uv
  exact SeqAt.EqAt.same _
 ·rcases flD_none hfd with ⟨ds,rfl⟩ | ⟨ds,rfl⟩
  ·obtain ⟨a,vs,rfl,q,ar⟩:=hd
   cases rx
   rcases flD_none hfe with ⟨es,rfl⟩ | ⟨es,rfl⟩
   ·obtain ⟨a',vs',rfl,q',ar'⟩:=he
    cases ry
    exact eqAt_TT I q ar q' ar' (fun z => hxy (by rw [z])) (E ds (.inl rfl)) hu2
   ·obtain ⟨a',vs',rfl,q',ar'⟩:=he
    cases ry
    obtain ⟨_,_,ht,_⟩:=I.tuple q
    obtain ⟨_,_,hp',_⟩:=I.list q'
    exact SeqAt.EqAt.tuple_list ht hp'.isList hu2
  ·obtain ⟨a,vs,rfl,q,ar⟩:=hd
   cases rx
   rcases flD_none hfe with ⟨es,rfl⟩ | ⟨es,rfl⟩
   ·obtain ⟨a',vs',rfl,q',ar'⟩:=he
    cases ry
    obtain ⟨_,_,hp,_⟩:=I.list q
    obtain ⟨_,_,ht',_⟩:=I.tuple q'
    exact SeqAt.EqAt.list_tuple hp.isList ht' hu2
   ·obtain ⟨a',vs',rfl,q',ar'⟩:=he
    cases ry
    exact eqAt_LL I q ar q' ar' (fun z => hxy (by rw [z])) (E ds (.inr rfl)) hu2
theorem eqAt_step (I:Zo X pins σ H s) {d e:D} {x y:V} {u v:Value} {A:Around} (hd:Yv X.K H d x) (he:Yv X.K H e y) (rx:Z6 x u) (ry:Z6 y v) (E:∀ ds,d = .tup ds ∨ d = .lst ds→EqIn A.in1 s X.K H ds) (hu2:A.units < cLine) :
  SeqAt.EqAt A s u v (eqD d e):=by
 cases hfd:flD d with
 | some x' =>
  obtain ⟨rfl,fx⟩:=Yv.flat hfd hd
  cases hfe:flD e with
  | some y' =>
   obtain ⟨rfl,fy⟩:=Yv.flat hfe he
   rw [eqD_flat hfd hfe]
   exact eqAt_V rx ry fx fy
  | none =>
   rcases flD_none hfe with ⟨es,rfl⟩ | ⟨es,rfl⟩
   ·obtain ⟨a,vs,rfl,q,_⟩:=he
    cases ry
    obtain ⟨its,_,ht,_⟩:=I.tuple q
    exact eqAt_fT hfd rx ht hu2
   ·obtain ⟨a,vs,rfl,q,_⟩:=he
    cases ry
    obtain ⟨its,_,hp,_⟩:=I.list q
    exact eqAt_fL hfd rx hp.isList hu2
 | none =>
  cases hfe:flD e with
  | some y' =>
   obtain ⟨rfl,fy⟩:=Yv.flat hfe he
   rcases flD_none hfd with ⟨es,rfl⟩ | ⟨es,rfl⟩
   ·obtain ⟨a,vs,rfl,q,_⟩:=hd
    cases rx
    obtain ⟨its,_,ht,_⟩:=I.tuple q
    exact eqAt_Tf hfe ry ht hu2
   ·obtain ⟨a,vs,rfl,q,_⟩:=hd
    cases rx
    obtain ⟨its,_,hp,_⟩:=I.list q
    exact eqAt_Lf hfe ry hp.isList hu2
  | none => exact eqAt_refs I hfd hfe hd he rx ry E hu2
theorem dpD_parts {d:D} {ds:List D} (h:d = .tup ds ∨ d = .lst ds) {c:D} (m:c ∈ ds):dpD c + 1 ≤ dpD d:=by
 have:=dpDs_mem m
 rcases h with rfl | rfl
 ·have z:dpD (D.tup ds) = dpDs ds + 1:=by simp only [dpD]
  omega
 ·have z:dpD (D.lst ds) = dpDs ds + 1:=by simp only [dpD]
  omega
theorem eqAt_Dn (I:Zo X pins σ H s) (n:Nat):∀ (A:Around) (d e:D) (x y:V) (u v:Value),dpD d < n→Yv X.K H d x→Yv X.K H e y→Z6 x u→Z6 y v→A.units + dpD d < cLine→SeqAt.EqAt A s u v (eqD d e):=by
 induction n with
 | zero => intro A d e x y u v h; exact absurd h (Nat.not_lt_zero _)
 | succ n ih =>
  intro A d e x y u v h hd he rx ry hu
  refine eqAt_step I hd he rx ry (fun ds hds c hc e' x' y' u' v' h1 h2 r1 r2 => ?_) (by omega)
  have hp:=dpD_parts hds hc
  refine ih A.in1 c e' x' y' u' v' (by omega) h1 h2 r1 r2 ?_
  show A.units + 1 + dpD c < cLine
  omega
theorem eqAt_D (I:Zo X pins σ H s) (d e:D) (x y:V) (u v:Value) (A:Around) (hd:Yv X.K H d x) (he:Yv X.K H e y) (rx:Z6 x u) (ry:Z6 y v) (hu:A.units + dpD d < cLine) (hu2:A.units < cLine) :
  SeqAt.EqAt A s u v (eqD d e):=eqAt_Dn I (dpD d + 1) A d e x y u v (Nat.lt_succ_self _) hd he rx ry hu
end
theorem rcEq_V {A:Around} {s:Shared} {y x:V} {u v:Value} (ry:Z6 y u) (rx:Z6 x v) (fy:flatV y = true) (fx:flatV x = true):SeqAt.RcAt A s u v ((eqV y x)):=by
 cases y with
 | non =>
  cases ry
  cases x with
  | non => cases rx; exact SeqAt.RcAt.none_none
  | bl b => cases rx; exact SeqAt.RcAt.none_bool b
  | int b => obtain ⟨t,rfl⟩:=rx; exact SeqAt.RcAt.none_int b t
  | str b => obtain ⟨t,rfl⟩:=rx; exact SeqAt.RcAt.none_str b t
  | _ => exact absurd (show false = true from fx) Bool.false_ne_true
 | bl a =>
  cases ry
  cases x with
  | non => cases rx; exact SeqAt.RcAt.bool_none a
  | bl b => cases rx; exact SeqAt.RcAt.bool_bool a b
  | int b => obtain ⟨t,rfl⟩:=rx; exact SeqAt.RcAt.bool_int a b t
  | str b => obtain ⟨t,rfl⟩:=rx; exact SeqAt.RcAt.bool_str a b t
  | _ => exact absurd (show false = true from fx) Bool.false_ne_true
 | int a =>
  obtain ⟨t',rfl⟩:=ry
  cases x with
  | non => cases rx; exact SeqAt.RcAt.int_none a t'
  | bl b => cases rx; exact SeqAt.RcAt.int_bool a t' b
  | int b => obtain ⟨t,rfl⟩:=rx; exact SeqAt.RcAt.int_int a t' b t
  | str b => obtain ⟨t,rfl⟩:=rx; exact SeqAt.RcAt.int_str a t' b t
  | _ => exact absurd (show false = true from fx) Bool.false_ne_true
 | str a =>
  obtain ⟨t',rfl⟩:=ry
  cases x with
  | non => cases rx; exact SeqAt.RcAt.str_none a t'
  | bl b => cases rx; exact SeqAt.RcAt.str_bool a t' b
  | int b => obtain ⟨t,rfl⟩:=rx; exact SeqAt.RcAt.str_int a t' b t
  | str b => obtain ⟨t,rfl⟩:=rx; exact SeqAt.RcAt.str_str a t' b t
  | _ => exact absurd (show false = true from fx) Bool.false_ne_true
 | _ => exact absurd (show false = true from fy) Bool.false_ne_true
theorem rcEq_D {X:Cx} {pins:List (Addr × Obj)} {σ:St} {H:Hp} {s:Shared} (I:Zo X pins σ H s) (d e:D) (x y:V) (u v:Value) (A:Around) (hd:Yv X.K H d x) (he:Yv X.K H e y) (rx:Z6 x u) (ry:Z6 y v) (hu:A.units + dpD d < cLine) (hu2:A.units < cLine) :
  SeqAt.RcAt A s u v ((eqD d e)):=by
 cases hfd:flD d with
 | some x' =>
  obtain ⟨rfl,fx⟩:=Yv.flat hfd hd
  cases hfe:flD e with
  | some y' =>
   obtain ⟨rfl,fy⟩:=Yv.flat hfe he
   rw [eqD_flat hfd hfe]
   exact rcEq_V rx ry fx fy
  | none =>
   cases e with
   | tup es =>
    obtain ⟨a,vs,rfl,q,_⟩:=he
    cases ry
    obtain ⟨its,_,ht,_⟩:=I.tuple q
    cases d with
    | non => cases hfd; cases rx; exact SeqAt.RcAt.none_tuple ht hu2
    | bl b => cases hfd; cases rx; exact SeqAt.RcAt.bool_tuple b ht hu2
    | int b => cases hfd; obtain ⟨t,rfl⟩:=rx; exact SeqAt.RcAt.int_tuple b t ht hu2
    | str b => cases hfd; obtain ⟨t,rfl⟩:=rx; exact SeqAt.RcAt.str_tuple b t ht hu2
    | tup _ => cases hfd
    | lst _ => cases hfd
   | lst es =>
    obtain ⟨a,vs,rfl,q,_⟩:=he
    cases ry
    obtain ⟨its,_,hp,_⟩:=I.list q
    have ht:=hp.isList
    cases d with
    | non => cases hfd; cases rx; exact SeqAt.RcAt.none_list ht hu2
    | bl b => cases hfd; cases rx; exact SeqAt.RcAt.bool_list b ht hu2
    | int b => cases hfd; obtain ⟨t,rfl⟩:=rx; exact SeqAt.RcAt.int_list b t ht hu2
    | str b => cases hfd; obtain ⟨t,rfl⟩:=rx; exact SeqAt.RcAt.str_list b t ht hu2
    | tup _ => cases hfd
    | lst _ => cases hfd
   | non => cases hfe
   | bl _ => cases hfe
   | int _ => cases hfe
   | str _ => cases hfe
 | none =>
  cases hfe:flD e with
  | some y' =>
   obtain ⟨rfl,fy⟩:=Yv.flat hfe he
   cases d with
   | tup es =>
    obtain ⟨a,vs,rfl,q,_⟩:=hd
    cases rx
    obtain ⟨its,_,ht,_⟩:=I.tuple q
    cases e with
    | non => cases hfe; cases ry; exact SeqAt.RcAt.tuple_none ht hu2
    | bl b => cases hfe; cases ry; exact SeqAt.RcAt.tuple_bool b ht hu2
    | int b => cases hfe; obtain ⟨t,rfl⟩:=ry; exact SeqAt.RcAt.tuple_int b t ht hu2
    | str b => cases hfe; obtain ⟨t,rfl⟩:=ry; exact SeqAt.RcAt.tuple_str b t ht hu2
    | tup _ => cases hfe
    | lst _ => cases hfe
   | lst es =>
    obtain ⟨a,vs,rfl,q,_⟩:=hd
    cases rx
    obtain ⟨its,_,hp,_⟩:=I.list q
    have ht:=hp.isList
    cases e with
    | non => cases hfe; cases ry; exact SeqAt.RcAt.list_none ht hu2
    | bl b => cases hfe; cases ry; exact SeqAt.RcAt.list_bool b ht hu2
    | int b => cases hfe; obtain ⟨t,rfl⟩:=ry; exact SeqAt.RcAt.list_int b t ht hu2
    | str b => cases hfe; obtain ⟨t,rfl⟩:=ry; exact SeqAt.RcAt.list_str b t ht hu2
    | tup _ => cases hfe
    | lst _ => cases hfe
   | non => cases hfd
   | bl _ => cases hfd
   | int _ => cases hfd
   | str _ => cases hfd
  | none =>
   cases d with
   | tup ds =>
    obtain ⟨a,vs,rfl,q,ar⟩:=hd
    cases rx
    obtain ⟨its,r,ht,_⟩:=I.tuple q
    cases e with
    | tup es =>
     obtain ⟨a',vs',rfl,q',ar'⟩:=he
     cases ry
     obtain ⟨its',r',ht',_⟩:=I.tuple q'
     have l1:its.toArray.size = ds.length:=by rw [List.size_toArray, ← r.length, ← ar.length]
     have l2:its'.toArray.size = es.length:=by rw [List.size_toArray, ← r'.length, ← ar'.length]
     have main:=SeqAt.RcAt.tuples (A:=A) (e:=fun j => eqD (ds.getD j .non) (es.getD j .non)) ht ht' hu2 (fun j h1 h2 => by
       have j1:j < ds.length:=by omega
       have j2:j < es.length:=by omega
       have e1:ds[j]? = some ds[j]:=List.getElem?_eq_getElem j1
       have e2:es[j]? = some es[j]:=List.getElem?_eq_getElem j2
       obtain ⟨x1,g1,i1⟩:=ar.get e1
       obtain ⟨y1,g2,i2⟩:=ar'.get e2
       have d1:ds.getD j .non = ds[j]:=by simp [j1]
       have d2:es.getD j .non = es[j]:=by simp [j2]
       show SeqAt.EqAt A.in1 s _ _ (eqD (ds.getD j .non) (es.getD j .non))
       rw [d1,d2]
       have hm:=dpDs_mem (List.getElem_mem j1)
       have z1:dpD (D.tup ds) = dpDs ds + 1:=by simp only [dpD]
       refine eqAt_D I ds[j] es[j] x1 y1 _ _ A.in1 i1 i2 (Ye r (by simpa using h1) g1) (Ye r' (by simpa using h2) g2) ?_ ?_
       ·show A.units + 1 + dpD ds[j] < cLine
        omega
       ·show A.units + 1 < cLine
        omega)
     rw [l1,l2,Vi] at main
     exact main
    | lst es =>
     obtain ⟨a',vs',rfl,q',ar'⟩:=he
     cases ry
     obtain ⟨its',r',hp',_⟩:=I.list q'
     exact SeqAt.RcAt.tuple_list ht hp'.isList hu2
    | non => cases hfe
    | bl _ => cases hfe
    | int _ => cases hfe
    | str _ => cases hfe
   | lst ds =>
    obtain ⟨a,vs,rfl,q,ar⟩:=hd
    cases rx
    obtain ⟨its,r,hp,_⟩:=I.list q
    have ht:=hp.isList
    cases e with
    | lst es =>
     obtain ⟨a',vs',rfl,q',ar'⟩:=he
     cases ry
     obtain ⟨its',r',hp',_⟩:=I.list q'
     have ht':=hp'.isList
     have l1:its.toArray.size = ds.length:=by rw [List.size_toArray, ← r.length, ← ar.length]
     have l2:its'.toArray.size = es.length:=by rw [List.size_toArray, ← r'.length, ← ar'.length]
     by_cases hl:ds.length = es.length
     ·have main:=SeqAt.RcAt.lists (A:=A) (e:=fun j => eqD (ds.getD j .non) (es.getD j .non)) ht ht' (by omega) hu2 (fun j h1 h2 => by
       have j1:j < ds.length:=by omega
       have j2:j < es.length:=by omega
       have e1:ds[j]? = some ds[j]:=List.getElem?_eq_getElem j1
       have e2:es[j]? = some es[j]:=List.getElem?_eq_getElem j2
       obtain ⟨x1,g1,i1⟩:=ar.get e1
       obtain ⟨y1,g2,i2⟩:=ar'.get e2
       have d1:ds.getD j .non = ds[j]:=by simp [j1]
       have d2:es.getD j .non = es[j]:=by simp [j2]
       show SeqAt.EqAt A.in1 s _ _ (eqD (ds.getD j .non) (es.getD j .non))
       rw [d1,d2]
       have hm:=dpDs_mem (List.getElem_mem j1)
       have z1:dpD (D.lst ds) = dpDs ds + 1:=by simp only [dpD]
       refine eqAt_D I ds[j] es[j] x1 y1 _ _ A.in1 i1 i2 (Ye r (by simpa using h1) g1) (Ye r' (by simpa using h2) g2) ?_ ?_
       ·show A.units + 1 + dpD ds[j] < cLine
        omega
       ·show A.units + 1 < cLine
        omega)
      have al:=Vi ds es
      rw [← hl,Nat.min_self,beq_self_eq_true,Bool.and_true] at al
      rw [l1,al] at main
      exact main
     ·have main:=SeqAt.RcAt.lists_lengths (A:=A) ht ht' (by rw [l1,l2]; simpa using hl) hu2
      have al:=Vi ds es
      have hf:(ds.length == es.length) = false:=by simpa using hl
      rw [hf,Bool.and_false] at al
      have z:eqD (D.lst ds) (D.lst es) = eqDs ds es:=by simp only [eqD]
      rw [z, ← al]
      exact main
    | tup es =>
     obtain ⟨a',vs',rfl,q',ar'⟩:=he
     cases ry
     obtain ⟨its',r',ht',_⟩:=I.tuple q'
     exact SeqAt.RcAt.list_tuple ht ht' hu2
    | non => cases hfe
    | bl _ => cases hfe
    | int _ => cases hfe
    | str _ => cases hfe
   | non => cases hfd
   | bl _ => cases hfd
   | int _ => cases hfd
   | str _ => cases hfd
theorem rcNe_V {A:Around} {s:Shared} {y x:V} {u v:Value} (ry:Z6 y u) (rx:Z6 x v) (fy:flatV y = true) (fx:flatV x = true):SeqAt.RcNeAt A s u v (!(eqV y x)):=by
 cases y with
 | non =>
  cases ry
  cases x with
  | non => cases rx; exact SeqAt.RcNeAt.none_none
  | bl b => cases rx; exact SeqAt.RcNeAt.none_bool b
  | int b => obtain ⟨t,rfl⟩:=rx; exact SeqAt.RcNeAt.none_int b t
  | str b => obtain ⟨t,rfl⟩:=rx; exact SeqAt.RcNeAt.none_str b t
  | _ => exact absurd (show false = true from fx) Bool.false_ne_true
 | bl a =>
  cases ry
  cases x with
  | non => cases rx; exact SeqAt.RcNeAt.bool_none a
  | bl b => cases rx; exact SeqAt.RcNeAt.bool_bool a b
  | int b => obtain ⟨t,rfl⟩:=rx; exact SeqAt.RcNeAt.bool_int a b t
  | str b => obtain ⟨t,rfl⟩:=rx; exact SeqAt.RcNeAt.bool_str a b t
  | _ => exact absurd (show false = true from fx) Bool.false_ne_true
 | int a =>
  obtain ⟨t',rfl⟩:=ry
  cases x with
  | non => cases rx; exact SeqAt.RcNeAt.int_none a t'
  | bl b => cases rx; exact SeqAt.RcNeAt.int_bool a t' b
  | int b => obtain ⟨t,rfl⟩:=rx; exact SeqAt.RcNeAt.int_int a t' b t
  | str b => obtain ⟨t,rfl⟩:=rx; exact SeqAt.RcNeAt.int_str a t' b t
  | _ => exact absurd (show false = true from fx) Bool.false_ne_true
 | str a =>
  obtain ⟨t',rfl⟩:=ry
  cases x with
  | non => cases rx; exact SeqAt.RcNeAt.str_none a t'
  | bl b => cases rx; exact SeqAt.RcNeAt.str_bool a t' b
  | int b => obtain ⟨t,rfl⟩:=rx; exact SeqAt.RcNeAt.str_int a t' b t
  | str b => obtain ⟨t,rfl⟩:=rx; exact SeqAt.RcNeAt.str_str a t' b t
  | _ => exact absurd (show false = true from fx) Bool.false_ne_true
 | _ => exact absurd (show false = true from fy) Bool.false_ne_true
theorem rcNe_D {X:Cx} {pins:List (Addr × Obj)} {σ:St} {H:Hp} {s:Shared} (I:Zo X pins σ H s) (d e:D) (x y:V) (u v:Value) (A:Around) (hd:Yv X.K H d x) (he:Yv X.K H e y) (rx:Z6 x u) (ry:Z6 y v) (hu:A.units + dpD d < cLine) (hu2:A.units < cLine) :
  SeqAt.RcNeAt A s u v (!(eqD d e)):=by
 cases hfd:flD d with
 | some x' =>
  obtain ⟨rfl,fx⟩:=Yv.flat hfd hd
  cases hfe:flD e with
  | some y' =>
   obtain ⟨rfl,fy⟩:=Yv.flat hfe he
   rw [eqD_flat hfd hfe]
   exact rcNe_V rx ry fx fy
  | none =>
   cases e with
   | tup es =>
    obtain ⟨a,vs,rfl,q,_⟩:=he
    cases ry
    obtain ⟨its,_,ht,_⟩:=I.tuple q
    cases d with
    | non => cases hfd; cases rx; exact SeqAt.RcNeAt.none_tuple ht hu2
    | bl b => cases hfd; cases rx; exact SeqAt.RcNeAt.bool_tuple b ht hu2
    | int b => cases hfd; obtain ⟨t,rfl⟩:=rx; exact SeqAt.RcNeAt.int_tuple b t ht hu2
    | str b => cases hfd; obtain ⟨t,rfl⟩:=rx; exact SeqAt.RcNeAt.str_tuple b t ht hu2
    | tup _ => cases hfd
    | lst _ => cases hfd
   | lst es =>
    obtain ⟨a,vs,rfl,q,_⟩:=he
    cases ry
    obtain ⟨its,_,hp,_⟩:=I.list q
    have ht:=hp.isList
    cases d with
    | non => cases hfd; cases rx; exact SeqAt.RcNeAt.none_list ht hu2
    | bl b => cases hfd; cases rx; exact SeqAt.RcNeAt.bool_list b ht hu2
    | int b => cases hfd; obtain ⟨t,rfl⟩:=rx; exact SeqAt.RcNeAt.int_list b t ht hu2
    | str b => cases hfd; obtain ⟨t,rfl⟩:=rx; exact SeqAt.RcNeAt.str_list b t ht hu2
    | tup _ => cases hfd
    | lst _ => cases hfd
   | non => cases hfe
   | bl _ => cases hfe
   | int _ => cases hfe
   | str _ => cases hfe
 | none =>
  cases hfe:flD e with
  | some y' =>
   obtain ⟨rfl,fy⟩:=Yv.flat hfe he
   cases d with
   | tup es =>
    obtain ⟨a,vs,rfl,q,_⟩:=hd
    cases rx
    obtain ⟨its,_,ht,_⟩:=I.tuple q
    cases e with
    | non => cases hfe; cases ry; exact SeqAt.RcNeAt.tuple_none ht hu2
    | bl b => cases hfe; cases ry; exact SeqAt.RcNeAt.tuple_bool b ht hu2
    | int b => cases hfe; obtain ⟨t,rfl⟩:=ry; exact SeqAt.RcNeAt.tuple_int b t ht hu2
    | str b => cases hfe; obtain ⟨t,rfl⟩:=ry; exact SeqAt.RcNeAt.tuple_str b t ht hu2
    | tup _ => cases hfe
    | lst _ => cases hfe
   | lst es =>
    obtain ⟨a,vs,rfl,q,_⟩:=hd
    cases rx
    obtain ⟨its,_,hp,_⟩:=I.list q
    have ht:=hp.isList
    cases e with
    | non => cases hfe; cases ry; exact SeqAt.RcNeAt.list_none ht hu2
    | bl b => cases hfe; cases ry; exact SeqAt.RcNeAt.list_bool b ht hu2
    | int b => cases hfe; obtain ⟨t,rfl⟩:=ry; exact SeqAt.RcNeAt.list_int b t ht hu2
    | str b => cases hfe; obtain ⟨t,rfl⟩:=ry; exact SeqAt.RcNeAt.list_str b t ht hu2
    | tup _ => cases hfe
    | lst _ => cases hfe
   | non => cases hfd
   | bl _ => cases hfd
   | int _ => cases hfd
   | str _ => cases hfd
  | none =>
   cases d with
   | tup ds =>
    obtain ⟨a,vs,rfl,q,ar⟩:=hd
    cases rx
    obtain ⟨its,r,ht,_⟩:=I.tuple q
    cases e with
    | tup es =>
     obtain ⟨a',vs',rfl,q',ar'⟩:=he
     cases ry
     obtain ⟨its',r',ht',_⟩:=I.tuple q'
     have l1:its.toArray.size = ds.length:=by rw [List.size_toArray, ← r.length, ← ar.length]
     have l2:its'.toArray.size = es.length:=by rw [List.size_toArray, ← r'.length, ← ar'.length]
     have main:=SeqAt.RcNeAt.tuples (A:=A) (e:=fun j => eqD (ds.getD j .non) (es.getD j .non)) ht ht' hu2 (fun j h1 h2 => by
       have j1:j < ds.length:=by omega
       have j2:j < es.length:=by omega
       have e1:ds[j]? = some ds[j]:=List.getElem?_eq_getElem j1
       have e2:es[j]? = some es[j]:=List.getElem?_eq_getElem j2
       obtain ⟨x1,g1,i1⟩:=ar.get e1
       obtain ⟨y1,g2,i2⟩:=ar'.get e2
       have d1:ds.getD j .non = ds[j]:=by simp [j1]
       have d2:es.getD j .non = es[j]:=by simp [j2]
       show SeqAt.EqAt A.in1 s _ _ (eqD (ds.getD j .non) (es.getD j .non))
       rw [d1,d2]
       have hm:=dpDs_mem (List.getElem_mem j1)
       have z1:dpD (D.tup ds) = dpDs ds + 1:=by simp only [dpD]
       refine eqAt_D I ds[j] es[j] x1 y1 _ _ A.in1 i1 i2 (Ye r (by simpa using h1) g1) (Ye r' (by simpa using h2) g2) ?_ ?_
       ·show A.units + 1 + dpD ds[j] < cLine
        omega
       ·show A.units + 1 < cLine
        omega)
     rw [l1,l2,Vi] at main
     exact main
    | lst es =>
     obtain ⟨a',vs',rfl,q',ar'⟩:=he
     cases ry
     obtain ⟨its',r',hp',_⟩:=I.list q'
     exact SeqAt.RcNeAt.tuple_list ht hp'.isList hu2
    | non => cases hfe
    | bl _ => cases hfe
    | int _ => cases hfe
    | str _ => cases hfe
   | lst ds =>
    obtain ⟨a,vs,rfl,q,ar⟩:=hd
    cases rx
    obtain ⟨its,r,hp,_⟩:=I.list q
    have ht:=hp.isList
    cases e with
    | lst es =>
     obtain ⟨a',vs',rfl,q',ar'⟩:=he
     cases ry
     obtain ⟨its',r',hp',_⟩:=I.list q'
     have ht':=hp'.isList
     have l1:its.toArray.size = ds.length:=by rw [List.size_toArray, ← r.length, ← ar.length]
     have l2:its'.toArray.size = es.length:=by rw [List.size_toArray, ← r'.length, ← ar'.length]
     by_cases hl:ds.length = es.length
     ·have main:=SeqAt.RcNeAt.lists (A:=A) (e:=fun j => eqD (ds.getD j .non) (es.getD j .non)) ht ht' (by omega) hu2 (fun j h1 h2 => by
       have j1:j < ds.length:=by omega
       have j2:j < es.length:=by omega
       have e1:ds[j]? = some ds[j]:=List.getElem?_eq_getElem j1
       have e2:es[j]? = some es[j]:=List.getElem?_eq_getElem j2
       obtain ⟨x1,g1,i1⟩:=ar.get e1
       obtain ⟨y1,g2,i2⟩:=ar'.get e2
       have d1:ds.getD j .non = ds[j]:=by simp [j1]
       have d2:es.getD j .non = es[j]:=by simp [j2]
       show SeqAt.EqAt A.in1 s _ _ (eqD (ds.getD j .non) (es.getD j .non))
       rw [d1,d2]
       have hm:=dpDs_mem (List.getElem_mem j1)
       have z1:dpD (D.lst ds) = dpDs ds + 1:=by simp only [dpD]
       refine eqAt_D I ds[j] es[j] x1 y1 _ _ A.in1 i1 i2 (Ye r (by simpa using h1) g1) (Ye r' (by simpa using h2) g2) ?_ ?_
       ·show A.units + 1 + dpD ds[j] < cLine
        omega
       ·show A.units + 1 < cLine
        omega)
      have al:=Vi ds es
      rw [← hl,Nat.min_self,beq_self_eq_true,Bool.and_true] at al
      rw [l1,al] at main
      exact main
     ·have main:=SeqAt.RcNeAt.lists_lengths (A:=A) ht ht' (by rw [l1,l2]; simpa using hl) hu2
      have al:=Vi ds es
      have hf:(ds.length == es.length) = false:=by simpa using hl
      rw [hf,Bool.and_false] at al
      have z:eqD (D.lst ds) (D.lst es) = eqDs ds es:=by simp only [eqD]
      rw [z, ← al]
      exact main
    | tup es =>
     obtain ⟨a',vs',rfl,q',ar'⟩:=he
     cases ry
     obtain ⟨its',r',ht',_⟩:=I.tuple q'
     exact SeqAt.RcNeAt.list_tuple ht ht' hu2
    | non => cases hfe
    | bl _ => cases hfe
    | int _ => cases hfe
    | str _ => cases hfe
   | non => cases hfd
   | bl _ => cases hfd
   | int _ => cases hfd
   | str _ => cases hfd
section
variable {X:Cx}
def rEqD (K:W.Frag) (A:Around):R2:=fun x y H Q => ∃ d e,Yv K H d x∧Yv K H e y∧A.units + dpD d < cLine∧Q (.bl (eqD d e)) H
def rNeD (K:W.Frag) (A:Around):R2:=fun x y H Q => ∃ d e,Yv K H d x∧Yv K H e y∧A.units + dpD d < cLine∧Q (.bl (!eqD d e)) H
theorem op_eqD:OpR X (compareOp .Eq) (rEqD X.K X.A):=by
 intro pins s σ H x y v u Q I rx ry h
 obtain ⟨d,e,hd,he,hu,q⟩:=h
 exact rcEq_D I d e x y v u X.A hd he rx ry hu (by omega) X.prog X.w X.xe _ ⟨.bl _,H,I,rfl,q⟩
theorem op_neD:OpR X (compareOp .NotEq) (rNeD X.K X.A):=by
 intro pins s σ H x y v u Q I rx ry h
 obtain ⟨d,e,hd,he,hu,q⟩:=h
 exact rcNe_D I d e x y v u X.A hd he rx ry hu (by omega) X.prog X.w X.xe _ ⟨.bl _,H,I,rfl,q⟩
theorem call_isi:CallR X (.builtin "isinstance") (fun xs H Q => ∃ x T t b,xs = [x,.ty T]∧TyOf X.K H x t∧W.kitOne X.K t (.type T) = some b∧Q (.bl b) H):=by
 intro pins s σ H xs us Q I r h
 obtain ⟨x,T,t,b,rfl,ty,e,q⟩:=h
 obtain ⟨u,w',rfl,rx,ry⟩:=vals2 r
 cases ry
 exact isinst_ok I rx ty e (fun tk => ⟨.bl b,H,I.tok _,rfl,q⟩)
end
abbrev noE:Value→Shared→Prop:=fun _ _ => False
def testsOf (ifs:List Expr) (env:Env):Sem Bool :=
 forIn ifs true fun c r => if r = true then (isTrue c env (eval c env) >>= fun b => pure (ForInStep.yield b)) else pure (ForInStep.yield r)
section
variable (prog:Program) (w:World) (A:Around) (tg elt:Expr) (ifs:List Expr) (env:Env) (it acc:Value)
def TurnEnd (nxt:Shared→Prop) (ok:Bool) (s:Shared):Prop :=
 if ok = true then wpAny (model prog w) A (eval elt env) (fun y s1 => wpAny (model prog w) A (call (.builtin "list.append") [acc,y]) (fun _ s2 => nxt s2) noE s1) noE s else nxt s
def TurnGo (nxt:Shared→Prop) (v:Value) (s:Shared):Prop :=
 wpAny (model prog w) A (letOwnedTupleGo tg it v) (fun _ s1 => wpAny (model prog w) A (assign tg env v) (fun _ s2 => wpAny (model prog w) A (testsOf ifs env) (TurnEnd prog w A elt env acc nxt) noE s2) noE s1) noE s
end
theorem compLoop_gen {prog:Program} {w:World} {A:Around} {R:Result→Shared→Prop} {s:Shared} {elt tg iter:Expr} {ifs:List Expr} {scope:Scope} {pos:Pos} {it acc:Value} {env:Env} (W:Nat→Shared→Prop)
  (turn:∀ m s1,W m s1→wpAny (model prog w) A (pyNext it) (fun r s2 => r.elim (R (.ok .next) s2) fun v => TurnGo prog w A tg elt ifs env it acc (fun s3 => ∃ m',m' < m∧W m' s3) v s2) noE s1)
  (m:Nat) (start:W m s):codeAny (model prog w) A (.compLoop (.ListComp elt [⟨tg,iter,ifs,0⟩] scope pos) 0 it acc env) R s:=by
 refine codeAny_loop rfl W (fun k s1 hw => ?_) m start
 refine wpAny_noted (env:=env) (m:=compTurn (.ListComp elt [⟨tg,iter,ifs,0⟩] scope pos) 0 it acc env) ?_
 rw [compTurn_list]
 refine wpAny_bind (wpAny_standAt (wpAny_bind (wpAny_mono (turn k s1 hw) (fun r s2 q => ?_) fun _ _ z => z.elim)))
 cases r with
 | none => exact wpAny_pure q
 | some v =>
  have q:TurnGo prog w A tg elt ifs env it acc (fun s3 => ∃ m',m' < k∧W m' s3) v s2:=q
  refine wpAny_bind (wpAny_mono q (fun _ s3 q3 => wpAny_bind (wpAny_mono q3 (fun _ s4 q4 => wpAny_bind (wpAny_mono q4 (fun ok s5 q5 => ?_) fun _ _ z => z.elim)) fun _ _ z => z.elim)) fun _ _ z => z.elim)
  cases ok with
  | false => exact wpAny_pure ⟨rfl,q5⟩
  | true => exact wpAny_bind (wpAny_bind (wpAny_mono q5 (fun y s6 q6 => wpAny_bind (wpAny_mono q6 (fun _ s7 q7 => wpAny_pure (wpAny_pure ⟨rfl,q7⟩)) fun _ _ z => z.elim)) fun _ _ z => z.elim))
def Vg (env:Env):List (Str × NameKind)→List (Str × Addr)→List (Str × Addr)
 | [],cs => cs
 | (n,k) :: r,cs => Vg env r (if k == .free then (n,(env.cells.lookup n).getD 0) :: cs else cs)
def Yu (X:Cx) (scope:Scope) (N:List Str) (fp:List Addr) (s:Shared) (H:Hp):Cx :=
 { X with N:=N,s₀:=s,H₀:=H,env:=compEnvC scope (Vg X.env scope.names []) s.heap.objs.size X.env,outer:=X.stack,stack:=X.stack,ex:=fp,fn:=fun _ => false,pn:=[],xe:=noE }
structure CompOk (X:Cx) (scope:Scope) (N:List Str) (fr:List (Option Nat)):Prop where
 clos:closureFor scope X.env = pure (Vg X.env scope.names [])
 kind:scope.kind = .function
 nocell:∀ y ∈ scope.names,y.2 ≠ .cell
 names:∀ y ∈ scope.names,y.2 = .local→scope.names.lookup y.1 = some .local
 cells:∀ x c,(Vg X.env scope.names []).lookup x = some c→X.env.cells.lookup x = some c
 has:∀ x,((relabel scope X.env).names.lookup x = some .cell ∨ (relabel scope X.env).names.lookup x = some .free)→∃ c,(Vg X.env scope.names []).lookup x = some c
 len:fr.length = N.length
 fr:∀ (i j:Nat),fr[i]? = some (some j)→∃ x,N[i]? = some x∧X.N[j]? = some x∧Vis X.env.scope x∧¬ X.env.kindOf x = some .local∧((relabel scope X.env).names.lookup x = some .cell ∨ (relabel scope X.env).names.lookup x = some .free)
def frees (fr:List (Option Nat)) (σ:St):St:=fr.map fun o => o.bind fun i => (σ[i]?).bind id
theorem frees_length (fr:List (Option Nat)) (σ:St):(frees fr σ).length = fr.length:=List.length_map _
theorem frees_get {fr:List (Option Nat)} {σ:St} {i:Nat} {v:V} (h:(frees fr σ)[i]? = some (some v)):∃ j,fr[i]? = some (some j)∧σ[j]? = some (some v):=by
 unfold frees at h
 rw [List.getElem?_map] at h
 cases e:fr[i]? with
 | none => rw [e] at h; cases h
 | some o =>
  rw [e] at h
  cases o with
  | none => cases h
  | some j =>
   refine ⟨j,rfl, ?_⟩
   have h':(σ[j]?).bind id = some v:=Option.some.inj h
   cases e2:σ[j]? with
   | none => rw [e2] at h'; cases h'
   | some o2 => rw [e2] at h'; exact congrArg some h'
theorem mem_relabel {scope:Scope} {env:Env} {x:Str} {k:NameKind} (h:(relabel scope env).names.lookup x = some k):∃ k0,(x,k0) ∈ scope.names∧(k = k0 ∨ (k0 = .free∧k = .cell)):=by
 have hm:=PySem.mem_of_lookup h
 obtain ⟨⟨n,k0⟩,h1,h2⟩:=List.mem_map.mp (show (x,k) ∈ scope.names.map _ from hm)
 dsimp only at h2
 split at h2
 ·rename_i hc
  cases h2
  simp only [Bool.and_eq_true,beq_iff_eq] at hc
  exact ⟨k0,h1,.inr ⟨hc.1.1,rfl⟩⟩
 ·cases h2
  exact ⟨k,h1,.inl rfl⟩
def scOk (outer scope:Scope):Bool :=
 decide (scope.kind = .function) && scope.names.all fun y => decide (y.2 ≠ .cell) && (decide (y.2 ≠ .local) || decide (scope.names.lookup y.1 = some .local)) &&
  (decide (y.2 ≠ .free) || decide (outer.names.lookup y.1 = some .cell) || decide (outer.names.lookup y.1 = some .free))
def frOk (NX:List Str) (names:List (Str × NameKind)):List Str→List (Option Nat)→Bool
 | [],[] => true
 | _ :: N,none :: fr => frOk NX names N fr
 | x :: N,some j :: fr => decide (NX[j]? = some x) && decide (names.lookup x = some .free) && frOk NX names N fr
 | _,_ => false
theorem frOk_len {NX:List Str} {names:List (Str × NameKind)}:∀ {N:List Str} {fr:List (Option Nat)},frOk NX names N fr = true→fr.length = N.length
 | [],[],_ => rfl
 | [],_ :: _,h => by simp [frOk] at h
 | _ :: _,[],h => by simp [frOk] at h
 | x :: N,none :: fr,h => by
  simp only [frOk] at h
  simp only [List.length_cons,frOk_len h]
 | x :: N,some j :: fr,h => by
  simp only [frOk,Bool.and_eq_true] at h
  simp only [List.length_cons,frOk_len h.2]
theorem frOk_get {NX:List Str} {names:List (Str × NameKind)}:∀ {N:List Str} {fr:List (Option Nat)} {i j:Nat},frOk NX names N fr = true→fr[i]? = some (some j)→∃ x,N[i]? = some x∧NX[j]? = some x∧names.lookup x = some .free
 | [],[],_,_,_,e => by simp at e
 | [],_ :: _,_,_,h,_ => by simp [frOk] at h
 | _ :: _,[],_,_,h,_ => by simp [frOk] at h
 | x :: N,none :: fr,0,_,_,e => by simp at e
 | x :: N,none :: fr,i + 1,j,h,e => by
  simp only [frOk] at h
  obtain ⟨y,h1,h2⟩:=frOk_get (i:=i) h (by simpa using e)
  exact ⟨y,by simpa using h1,h2⟩
 | x :: N,some k :: fr,0,j,h,e => by
  simp only [frOk,Bool.and_eq_true,decide_eq_true_eq] at h
  simp at e
  subst e
  exact ⟨x,rfl,h.1.1,h.1.2⟩
 | x :: N,some k :: fr,i + 1,j,h,e => by
  simp only [frOk,Bool.and_eq_true] at h
  obtain ⟨y,h1,h2⟩:=frOk_get (i:=i) h.2 (by simpa using e)
  exact ⟨y,by simpa using h1,h2⟩
theorem lookup_map_kind {f:Str→NameKind→NameKind} (x:Str):∀ names:List (Str × NameKind),(names.map fun p => (p.1,f p.1 p.2)).lookup x = (names.lookup x).map (f x)
 | [] => rfl
 | (n,k) :: r => by
  have ih:=lookup_map_kind (f:=f) x r
  cases e:x == n with
  | false =>
   simp only [List.map_cons,List.lookup_cons,e]
   exact ih
  | true =>
   have e':x = n:=by simpa using e
   simp only [List.map_cons,List.lookup_cons,e,Option.map_some]
   rw [e']
theorem relabel_names (scope:Scope) (env:Env):(relabel scope env).names = scope.names.map fun p => (p.1,if (p.2 == NameKind.free && env.scope.kind == .function && env.kindOf p.1 == some .cell) = true then NameKind.cell else p.2):=by
 show scope.names.map _ = _
 refine List.map_congr_left fun p _ => ?_
 obtain ⟨n,k⟩:=p
 dsimp only
 split <;> rfl
theorem lookup_relabel_free {scope:Scope} {env:Env} {x:Str} (h:scope.names.lookup x = some .free):(relabel scope env).names.lookup x = some .cell ∨ (relabel scope env).names.lookup x = some .free:=by
 rw [relabel_names,lookup_map_kind (f:=fun n k => if (k == NameKind.free && env.scope.kind == .function && env.kindOf n == some .cell) = true then NameKind.cell else k),h]
 dsimp only [Option.map_some]
 split
 ·exact .inl rfl
 ·exact .inr rfl
theorem closOf_mem {env:Env}:∀ {names:List (Str × NameKind)} {cs:List (Str × Addr)},(∀ y ∈ names,y.2 = .free→∃ c,env.cells.lookup y.1 = some c)→(∀ p ∈ cs,env.cells.lookup p.1 = some p.2)→∀ p ∈ Vg env names cs,env.cells.lookup p.1 = some p.2
 | [],cs,_,hc,p,hp => hc p hp
 | (n,k) :: r,cs,hn,hc,p,hp => by
  simp only [Vg] at hp
  refine closOf_mem (fun y hy => hn y (List.mem_cons_of_mem _ hy)) (fun q hq => ?_) p hp
  split at hq
  ·rename_i hk
   rcases List.mem_cons.mp hq with e | hq
   ·obtain ⟨c,hc'⟩:=hn (n,k) List.mem_cons_self (by simpa using hk)
    subst e
    dsimp only at hc' ⊢
    rw [hc']
    rfl
   ·exact hc q hq
  ·exact hc q hq
theorem closOf_old {env:Env}:∀ {names:List (Str × NameKind)} {cs:List (Str × Addr)} {p:Str × Addr},p ∈ cs→p ∈ Vg env names cs
 | [],_,_,h => h
 | (n,k) :: r,cs,p,h => by
  simp only [Vg]
  refine closOf_old ?_
  split
  ·exact List.mem_cons_of_mem _ h
  ·exact h
theorem closOf_has {env:Env}:∀ {names:List (Str × NameKind)} {cs:List (Str × Addr)} {x:Str},(x,NameKind.free) ∈ names→∃ c,(x,c) ∈ Vg env names cs
 | (n,k) :: r,cs,x,h => by
  rcases List.mem_cons.mp h with e | h
  ·cases e
   exact ⟨_,by simp only [Vg,beq_self_eq_true,if_true]; exact closOf_old List.mem_cons_self⟩
  ·simp only [Vg]
   exact closOf_has h
theorem lookup_of_mem {β:Type}:∀ {l:List (Str × β)} {x:Str} {b:β},(x,b) ∈ l→∃ c,l.lookup x = some c
 | (n,c) :: r,x,b,h => by
  cases hx:x == n with
  | true => exact ⟨c,by simp only [List.lookup_cons,hx]⟩
  | false =>
   rcases List.mem_cons.mp h with e | h
   ·cases e
    simp at hx
   ·obtain ⟨d,hd⟩:=lookup_of_mem h
    exact ⟨d,by simp only [List.lookup_cons,hx]; exact hd⟩
theorem closureFor_eq {scope:Scope} {env:Env} (h:∀ y ∈ scope.names,y.2 = .free→∃ c,env.cells.lookup y.1 = some c):closureFor scope env = pure (Vg env scope.names []):=by
 have go:∀ (names:List (Str × NameKind)) (cs:List (Str × Addr)),(∀ y ∈ names,y.2 = .free→∃ c,env.cells.lookup y.1 = some c) →
   (forIn names cs fun x cs => (do
    if x.2 == NameKind.free then pure (ForInStep.yield ((x.1, ← cellOf env x.1) :: cs)) else pure (ForInStep.yield cs):Sem (ForInStep (List (Str × Addr))))) = pure (Vg env names cs):=by
  intro names
  induction names with
  | nil => intro cs _; rfl
  | cons y r ih =>
   intro cs hn
   obtain ⟨n,k⟩:=y
   have hr:∀ y ∈ r,y.2 = .free→∃ c,env.cells.lookup y.1 = some c:=fun y hy => hn y (List.mem_cons_of_mem _ hy)
   rw [List.forIn_cons]
   by_cases hk:k = .free
   ·subst hk
    obtain ⟨c,hc⟩:=hn (n,.free) List.mem_cons_self rfl
    have ec:cellOf env n = pure c:=by
     unfold cellOf
     dsimp only at hc
     rw [hc]
    simp only [beq_self_eq_true,if_true,ec,pure_bind,Vg]
    rw [ih _ hr]
    dsimp only at hc
    rw [hc]
    rfl
   ·have hb:(k == NameKind.free) = false:=by simpa using hk
    simp only [hb,Bool.false_eq_true,if_false,pure_bind,Vg]
    exact ih _ hr
 have:=go scope.names [] h
 unfold closureFor
 simp only [bind_pure_comp] at this ⊢
 first
  | exact this
  | (simpa using this)
structure CompFr (X:Cx) (NX:List Str) (outer scope:Scope) (N:List Str) (fr:List (Option Nat)):Prop where
 nx:X.N = NX
 sc:X.env.scope.names = outer.names
 ok1:scOk outer scope = true
 ok2:frOk NX scope.names N fr = true
theorem CompFr.ok {X:Cx} {NX:List Str} {outer scope:Scope} {N:List Str} {fr:List (Option Nat)} (C:CompFr X NX outer scope N fr) (ok:X.Ok):CompOk X scope N fr:=by
 have h1:=C.ok1
 unfold scOk at h1
 simp only [Bool.and_eq_true,decide_eq_true_eq,List.all_eq_true,Bool.or_eq_true] at h1
 obtain ⟨hk,hn⟩:=h1
 have kof:∀ x,X.env.kindOf x = outer.names.lookup x:=fun x => by
  show X.env.scope.names.lookup x = _
  rw [C.sc]
 have hfree:∀ y ∈ scope.names,y.2 = .free→X.env.kindOf y.1 = some .cell ∨ X.env.kindOf y.1 = some .free:=fun y hy e => by
  rcases (hn y hy).2 with (z | z) | z
  ·exact absurd e z
  ·exact .inl ((kof _).trans z)
  ·exact .inr ((kof _).trans z)
 have hcell:∀ y ∈ scope.names,y.2 = .free→∃ c,X.env.cells.lookup y.1 = some c:=fun y hy e => ok.has y.1 (hfree y hy e)
 refine ⟨closureFor_eq hcell,hk,fun y hy => (hn y hy).1.1,fun y hy e => ?_,fun x c e => ?_,fun x h => ?_,frOk_len C.ok2,fun i j e => ?_⟩
 ·rcases (hn y hy).1.2 with z | z
  ·exact absurd e z
  ·exact z
 ·exact closOf_mem hcell (fun p hp => by cases hp) (x,c) (PySem.mem_of_lookup e)
 ·have hm:(x,NameKind.free) ∈ scope.names:=by
   rcases h with h | h
   ·obtain ⟨k0,h1,h2⟩:=mem_relabel h
    rcases h2 with h2 | ⟨h2,_⟩
    ·exact absurd h2.symm (hn _ h1).1.1
    ·subst h2; exact h1
   ·obtain ⟨k0,h1,h2⟩:=mem_relabel h
    rcases h2 with h2 | ⟨_,h2⟩
    ·subst h2; exact h1
    ·cases h2
  obtain ⟨c,hc⟩:=closOf_has (env:=X.env) (cs:=[]) hm
  exact lookup_of_mem hc
 ·obtain ⟨x,q1,q2,q3⟩:=frOk_get C.ok2 e
  have hm:=PySem.mem_of_lookup q3
  have hf:=hfree (x,.free) hm rfl
  refine ⟨x,q1,by rw [C.nx]; exact q2, ?_, ?_,lookup_relabel_free q3⟩
  ·exact .inr hf
  ·intro z
   dsimp only at hf
   rw [z] at hf
   rcases hf with hf | hf <;> cases hf
section
variable {X:Cx} {scope:Scope} {N:List Str} {fr:List (Option Nat)} {pins:List (Addr × Obj)} {σ:St} {H:Hp} {s:Shared} {fp:List Addr}
theorem inv_comp (C:CompOk X scope N fr) (I:Zo X pins σ H s) (hf:∀ b ∈ fp,FpOk X pins H b) (hob:∀ b ∈ fp,∃ o,s.heap.get? b = some o) {h1:Heap} {tk:Nat}
  (hns:h1.Ns s.heap.objs.size fun _ => none) (hk:∀ b o,s.heap.get? b = some o→h1.get? b = some o) :
  Zo (Yu X scope N fp s H) [] (frees fr σ) H { s with heap:=h1,toks:=tk }:=by
 have lt:∀ b ∈ fp,b < s.heap.objs.size:=fun b hb => let ⟨_,e⟩:=hob b hb; Heap.lt_size e
 have cellK:∀ x c,(Vg X.env scope.names []).lookup x = some c→∃ v,s.heap.IsCell c v:=fun x c e => I.cell x c (C.cells x c e)
 have ck:∀ c v,s.heap.IsCell c v→h1.IsCell c v:=fun c v ⟨o,e,d⟩ => ⟨o,hk c o e,d⟩
 refine ⟨⟨I.ok.mod,C.kind,I.ok.glob,I.ok.blt,Nat.le_refl _,fun x y c e1 e2 => I.ok.inj x y c (C.cells x c e1) (C.cells y c e2),fun x h => C.has x h,fun x c h _ => absurd h Bool.false_ne_true,I.ok.hd,I.ok.frames,.inl rfl,
   fun b hb => ⟨Nat.ne_of_lt (lt b hb),fun x c e => (hf b hb).2.2.2.2.1 x c (C.cells x c e)⟩,I.bs,Nat.le_trans I.ok.bsz I.sz,fun b o e hb => ?_,fun b hb hb' => ?_,I.stack,I.stkFree⟩,
  rfl,I.bare,Un.kept hk,⟨_,hns,fun i x v e1 e2 e3 => ?_⟩,fun x c e => ?_,I.hok.fresh (Nat.le_refl _),fun x c e => I.freeC x c (C.cells x c e),fun p hp => absurd (show p ∈ ([]:List (Addr × Obj)) from hp) (by simp),I.hok.kept hk, ?_⟩
 ·rcases (hf b hb).2.2.2.1 with z | z
  ·exact I.ok.noex b o e z
  ·exact absurd (Nat.lt_of_lt_of_le (Heap.lt_size (I.ok.bs b o e).1) z) (Nat.lt_irrefl _)
 ·rcases List.mem_cons.mp (I.stkSub b hb') with z | z
  ·exact (hf b hb).2.1 z
  ·exact (hf b hb).2.2.1 z
 ·obtain ⟨j,q1,q2⟩:=frees_get e2
  obtain ⟨x',n1,n2,vis,nl,k⟩:=C.fr i j q1
  have ex:x = x':=Option.some.inj (e1.symm.trans n1)
  subst ex
  obtain ⟨m,hm,hl⟩:=I.loc
  obtain ⟨u,r,l⟩:=hl j x v n2 q2 vis
  refine ⟨u,r, ?_⟩
  rcases l with ⟨l1,_⟩ | ⟨_,c,l2,l3⟩
  ·exact absurd l1 nl
  ·obtain ⟨c',hc'⟩:=C.has x k
   have ec:=C.cells x c' hc'
   rw [l2] at ec
   have ec':c = c':=Option.some.inj ec
   subst ec'
   exact .inr ⟨k,c,hc',ck c _ l3⟩
 ·obtain ⟨v,z⟩:=cellK x c e
  exact ⟨v,ck c v z⟩
 ·show (frees fr σ).length = N.length
  rw [frees_length,C.len]
theorem inv_uncomp (I:Zo X pins σ H s) (hf:∀ b ∈ fp,FpOk X pins H b) {σ':St} {H':Hp} {s':Shared} (J:Zo (Yu X scope N fp s H) [] σ' H' s'):Zo X pins σ H' s' :=
 I.call' (ch:=fp) J.os J.base J.hok J.bare fun b hb => ⟨(hf b hb).2.2.2.1,(hf b hb).2.1,(hf b hb).2.2.2.2.1,(hf b hb).2.2.2.2.2⟩
end
def PTs (X:Cx) (ifs:List Expr) (t:TT):Prop :=
 ∀ (pins:List (Addr × Obj)) (s:Shared) (σ:St) (H:Hp) (Q:Bool→Hp→Prop),Zo X pins σ H s→t σ H Q →
  wpAny (model X.prog X.w) X.A (testsOf ifs X.env) (TP X pins σ Q) X.xe s
def tAlways:TT:=fun _ H Q => Q true H
theorem Vf {X:Cx}:PTs X [] tAlways:=fun _ _ _ H _ I h => wpAny_tests_nil ⟨H,I,h⟩
def CompW (J:It) (g:TG) (tt:TT) (te:TE) (D:Addr) (W:Nat→Nat→List V→St→Hp→Prop) (fin:Hp→Prop):Prop :=
 ∀ i m ys σ H,W i m ys σ H→H D = some (.lst ys)∧((J.stop i H∧fin H) ∨ (J.go i H∧∃ N:List V→St→Hp→Prop,(∀ ys' σ' H',N ys' σ' H'→∃ m',m' < m∧W (i + 1) m' ys' σ' H') ∧
  ∀ x H',J.yld i H x H'→g x σ H' fun σ2 H2 => tt σ2 H2 fun ok H3 =>
   if ok = true then te σ2 H3 fun y H4 => H4 D = some (.lst ys)∧ys.length < sizeLine∧N (ys ++ [y]) σ2 (Z4 H4 D (.lst (ys ++ [y]))) else N ys σ2 H3))
abbrev DG:=List Addr→Shared→Hp→TG
abbrev DT:=List Addr→Shared→Hp→TT
abbrev DE:=List Addr→Shared→Hp→TE
def tComp (wi:TI) (fr:List (Option Nat)) (g:DG) (tt:DT) (te:DE):TE:=fun σ H Q => wi σ H fun J H1 => ∀ D fp sx,H1 D = none →
 ∃ W:Nat→Nat→List V→St→Hp→Prop,(∃ m,W 0 m [] (frees fr σ) (Z4 H1 D (.lst [])))∧CompW J (g fp sx (Z4 H1 D (.lst []))) (tt fp sx (Z4 H1 D (.lst []))) (te fp sx (Z4 H1 D (.lst []))) D W (fun H => Q (.ref D) H)
section
variable {X:Cx} {scope:Scope} {N:List Str} {fr:List (Option Nat)} {tg elt iter:Expr} {ifs:List Expr} {pos:Pos} {wi:TI} {g:DG} {tt:DT} {te:DE}
theorem comp_run {pins:List (Addr × Obj)} {σ:St} {s2:Shared} {it:Addr} {fp:List Addr} {tn:Nat→Heap→Prop} {J:It} {H2:Hp} {RR:Value→Addr→Result→Shared→Prop} {E:Value→Shared→Prop}
  (hc:X.calm = true) (C:CompOk X scope N fr)
  (hg:∀ fp s H,PG (Yu X scope N fp s H) tg (g fp s H)) (ht:∀ fp s H,PTs (Yu X scope N fp s H) ifs (tt fp s H)) (he:∀ fp s H,PE (Yu X scope N fp s H) elt (te fp s H))
  (I2:Zo X pins σ H2 s2) (T:Turn X.prog X.w X.K tg J fp it tn) (st2:tn 0 s2.heap) (f2:∀ b ∈ fp,FpOk X pins H2 b) {fin:Addr→Hp→Prop}
  (hW:∀ D fp sx,H2 D = none→∃ W:Nat→Nat→List V→St→Hp→Prop,(∃ m,W 0 m [] (frees fr σ) (Z4 H2 D (.lst [])))∧CompW J (g fp sx (Z4 H2 D (.lst []))) (tt fp sx (Z4 H2 D (.lst []))) (te fp sx (Z4 H2 D (.lst []))) D W (fin D))
  (hend:∀ D Cc s' σ' H' m,Zo X pins σ H' s'→H' Cc = none→Cc ≠ X.env.locals→Cc ∉ X.fs→X.s₀.heap.objs.size ≤ Cc→(∀ x c,X.env.cells.lookup x = some c→c ≠ Cc)→(∀ p ∈ X.pn ++ pins,p.1 ≠ Cc)→s'.heap.Ns Cc m→fin D H' →
   RR (.ref D) Cc (.ok σ') s') :
  wpAny (model X.prog X.w) X.A (newList []) (fun acc s₃ => wpAny (model X.prog X.w) X.A (newFunctionEnv scope X.env.globals (Vg X.env scope.names []) [] X.env.qual none .none (some X.env)) (fun cenv s₄ =>
   codeAny (model X.prog X.w) X.A (.compStart (.ListComp elt [⟨tg,iter,ifs,0⟩] scope pos) 0 (.ref it) acc { cenv with scope:=relabel scope X.env }) (RR acc cenv.locals) s₄) E s₃) E s2:=by
 refine wpAny_newObj_type (wpAny_newFunctionEnv C.nocell (by intro y hy; simp at hy) (fun h₁ hns₁ hsb₁ => ?_) C.kind)
 dsimp only at hns₁ hsb₁ ⊢
 have I3:Zo X pins σ (Z4 H2 s2.heap.objs.size (.lst [])) { s2 with heap:=s2.heap.push { cls:=.type "list",dict:=none,data:=.seq ([]:List Value).toArray } } :=
  I2.laid (t':=s2.toks) (fun b o e => Heap.get?_push_of_some _ e) (Nat.le_refl _) ⟨Nat.zero_le _,[],0,.nil,Heap.get?_push_size _ rfl⟩
 have hD:H2 s2.heap.objs.size = none:=I2.hok.fresh (Nat.le_refl _)
 obtain ⟨W,⟨m0,w0⟩,turn⟩:=hW _ fp { s2 with heap:=s2.heap.push { cls:=.type "list",dict:=none,data:=.seq ([]:List Value).toArray } } hD
 generalize hDD:s2.heap.objs.size = D at *
 generalize hS3:({ s2 with heap:=s2.heap.push { cls:=.type "list",dict:=none,data:=.seq ([]:List Value).toArray } }:Shared) = S3 at *
 have hS3h:s2.heap.push { cls:=.type "list",dict:=none,data:=.seq ([]:List Value).toArray } = S3.heap:=by rw [← hS3]
 rw [hS3h] at hns₁ hsb₁ ⊢
 have obj2:=T.obj 0 _ st2
 have nD:∀ b ∈ fp,b ≠ D:=fun b hb z => by
  obtain ⟨o,e,_⟩:=obj2 b hb
  have q:=Heap.lt_size e
  rw [hDD,z] at q
  exact absurd q (Nat.lt_irrefl _)
 have f3:∀ b ∈ fp,FpOk X pins (Z4 H2 D (.lst [])) b:=fun b hb => ⟨by rw [Zh (nD b hb)]; exact (f2 b hb).1,(f2 b hb).2⟩
 have ob3:∀ b ∈ fp,∃ o,S3.heap.get? b = some o:=fun b hb => by
  obtain ⟨o,e,_⟩:=obj2 b hb
  exact ⟨o,by rw [← hS3h]; exact Heap.get?_push_of_some _ e⟩
 have st3:tn 0 S3.heap:=T.keep _ _ _ st2 fun b hb o e => by rw [← hS3h]; exact Heap.get?_push_of_some _ e
 have hk1:∀ b o,S3.heap.get? b = some o→h₁.get? b = some o:=fun b o e => hsb₁.extBut b o (Nat.ne_of_lt (Heap.lt_size e)) (Heap.get?_push_of_some _ e)
 have J1:Zo (Yu X scope N fp S3 (Z4 H2 D (.lst []))) [] (frees fr σ) (Z4 H2 D (.lst [])) { S3 with heap:=h₁,toks:=s2.toks + ([]:List (Str × Value)).length }:=inv_comp C I3 f3 ob3 hns₁ hk1
 have st4:tn 0 h₁:=T.keep _ _ _ st3 fun b hb o e => hk1 b o e
 have es:({ s2 with heap:=h₁,toks:=s2.toks + ([]:List (Str × Value)).length }:Shared) = { S3 with heap:=h₁,toks:=s2.toks + ([]:List (Str × Value)).length }:=by rw [← hS3]
 have FpC:∀ {H':Hp},(∀ b ∈ fp,H' b = none)→∀ b ∈ fp,FpOk (Yu X scope N fp S3 (Z4 H2 D (.lst []))) [] H' b:=fun hn b hb =>
  ⟨hn b hb,(J1.ok.exf b hb).1,J1.ok.exfs b hb,.inl hb,(J1.ok.exf b hb).2,fun p hp => absurd (show p ∈ ([]:List (Addr × Obj)) from hp) (by simp)⟩
 have loop:codeAny (model X.prog X.w) X.A (.compLoop (.ListComp elt [⟨tg,iter,ifs,0⟩] scope pos) 0 (.ref it) (.ref D) (Yu X scope N fp S3 (Z4 H2 D (.lst []))).env) (RR (.ref D) S3.heap.objs.size)
   { S3 with heap:=h₁,toks:=s2.toks + ([]:List (Str × Value)).length }:=by
  refine compLoop_gen (fun n s' => ∃ i ys σ' H',Zo (Yu X scope N fp S3 (Z4 H2 D (.lst []))) [] σ' H' s'∧tn i s'.heap∧(∀ b ∈ fp,H' b = none)∧W i n ys σ' H') ?_ m0 ⟨0,[],_,_,J1,st4,fun b hb => (f3 b hb).1,w0⟩
  rintro n s5 ⟨i,ys,σ5,H5,J5,st5,fr5,w5⟩
  obtain ⟨hDl,alt⟩:=turn i n ys σ5 H5 w5
  rcases alt with ⟨stop,fi⟩ | ⟨go,NN,hNN,step⟩
  ·refine Y9 (T.done (Yu X scope N fp S3 (Z4 H2 D (.lst []))) rfl rfl rfl hc i [] s5 σ5 H5 noE J5 (FpC fr5) st5 stop) fun r s6 ⟨hr,J6⟩ => ?_
   subst hr
   show RR (.ref D) S3.heap.objs.size (.ok .next) s6
   have I6:=inv_uncomp I3 f3 J6
   obtain ⟨mm,hmm,_⟩:=J6.loc
   refine hend D _ s6 _ H5 mm I6 J6.free ?_ ?_ ?_ ?_ ?_ hmm fi
   ·exact Nat.ne_of_gt I3.lt
   ·exact I3.nofs (Nat.le_refl _)
   ·exact I3.sz
   ·intro x c e z
    obtain ⟨v,q⟩:=I3.cell x c e
    exact absurd q.lt (by rw [z]; exact Nat.lt_irrefl _)
   ·intro p hp z
    exact absurd (Heap.lt_size (I3.pin p hp).1) (by rw [z]; exact Nat.lt_irrefl _)
  ·refine Y9 (T.item (Yu X scope N fp S3 (Z4 H2 D (.lst []))) rfl rfl rfl hc i [] s5 σ5 H5 noE J5 (FpC fr5) st5 go) fun r s6 ⟨u,hr,h6⟩ => ?_
   subst hr
   refine Y9 (Q:=_) h6 fun _ s7 ⟨x,H7,J7,r7,y7,st7,fr7⟩ => ?_
   have J7':=J7.pinned (FpC fr7) (T.obj _ _ st7)
   have back:∀ {σ9:St} {H9:Hp} {s9:Shared},Zo (Yu X scope N fp S3 (Z4 H2 D (.lst []))) ([] ++ pinsAt fp s7.heap) σ9 H9 s9→tn (i + 1) s9.heap∧∀ b ∈ fp,H9 b = none:=fun {σ9 H9 s9} J9 =>
    ⟨T.keep _ _ _ st7 fun b hb o e => (J9.pin (b,o) (List.mem_append_right _ (List.mem_append_right _ (mem_pinsAt hb e)))).1,fun b hb => by
     obtain ⟨o,e,d⟩:=T.obj _ _ st7 b hb
     exact (J9.pin (b,o) (List.mem_append_right _ (List.mem_append_right _ (mem_pinsAt hb e)))).2.1⟩
   refine Y9 (hg fp S3 _ _ s7 σ5 H7 x u _ J7' r7 (step x H7 y7)) fun _ s8 ⟨σ8,H8,J8,q8⟩ => ?_
   refine Y9 (ht fp S3 _ _ s8 σ8 H8 _ J8 q8) fun ok s9 ⟨H9,J9,q9⟩ => ?_
   cases ok with
   | false =>
    rw [if_neg Bool.false_ne_true] at q9
    unfold TurnEnd
    rw [if_neg Bool.false_ne_true]
    obtain ⟨m',hm,w9⟩:=hNN _ _ _ q9
    exact ⟨m',hm,i + 1,ys,σ8,H9,J9.unpinned,(back J9).1,(back J9).2,w9⟩
   | true =>
    rw [if_pos rfl] at q9
    unfold TurnEnd
    rw [if_pos rfl]
    refine Y9 (he fp S3 _ _ s9 σ8 H9 _ J9 q9) fun yv s10 ⟨y,H10,J10,r10,hD10,hz,n10⟩ => ?_
    obtain ⟨m',hm,w10⟩:=hNN _ _ _ n10
    refine Y9 (Uq (X:=Yu X scope N fp S3 (Z4 H2 D (.lst []))) _ s10 σ8 H10 (.ref D) [y] (.ref D) [yv] (fun _ H' => H' = Z4 H10 D (.lst (ys ++ [y]))) J10 rfl (.cons r10 .nil) ⟨D,ys,y,rfl,rfl,hD10,hz,rfl⟩) fun _ s11 ⟨v11,H11,J11,_,e11⟩ => ?_
    subst e11
    exact ⟨m',hm,i + 1,ys ++ [y],σ8,_,J11.unpinned,(back J11).1,(back J11).2,w10⟩
 rw [es]
 exact codeAny_compStart_list loop (T.self _ 0 _ _ _ st4 loop)
theorem pe_comp {NX:List Str} {outer:Scope} (hc:X.calm = true) (hi:PI X tg iter wi) (C:CompFr X NX outer scope N fr)
  (hg:∀ fp s H,PG (Yu X scope N fp s H) tg (g fp s H)) (ht:∀ fp s H,PTs (Yu X scope N fp s H) ifs (tt fp s H)) (he:∀ fp s H,PE (Yu X scope N fp s H) elt (te fp s H))
  (hs:∀ x,foldedSetIterable iter X.env x = pure x:=by intro _; rfl):PE X (.ListComp elt [⟨tg,iter,ifs,0⟩] scope pos) (tComp wi fr g tt te):=by
 intro pins s σ H Q I h
 have C:=C.ok I.ok
 rw [eval_ListComp]
 refine wpAny_comprehension_free (use:=none) rfl hs C.clos C.kind C.names (Y9 (hi pins s σ H _ I h) fun v s1 h1 => Y9 h1 fun itv s2 h2 => ?_)
 obtain ⟨it,fp,tn,J,H2,e,I2,T,st2,f2,hW⟩:=h2
 subst e
 refine comp_run (RR:=fun acc Cc => compPost (model X.prog X.w) X.A X.xe none (EP X pins σ Q) acc Cc) hc C hg ht he I2 T st2 f2 hW ?_
 intro D Cc s' fl H' m I' f0 f1 f2' f3 f4 f5 hns fi
 refine ⟨m,hns,fun h' sb => ?_⟩
 exact ⟨.ref D,H',I'.turned (t':=s'.toks) (fun b o hb e => (sb.2 b hb).trans e) f0 f1 (.inr f3) f4 f5,rfl,fi⟩
theorem ps_setComp {NX:List Str} {outer:Scope} {i:Nat} {x:Str} {pos' pos2:Pos} (hN:X.N.Nodup) (hix:X.N[i]? = some x) (hx:Loc X.env.scope x) (hc:X.calm = true) (hi:PI X tg iter wi) (C:CompFr X NX outer scope N fr)
  (hg:∀ fp s H,PG (Yu X scope N fp s H) tg (g fp s H)) (ht:∀ fp s H,PTs (Yu X scope N fp s H) ifs (tt fp s H)) (he:∀ fp s H,PE (Yu X scope N fp s H) elt (te fp s H))
  (hsw:swapsWith (.ListComp elt [⟨tg,iter,ifs,0⟩] scope pos) (some (.Name x pos')) pos2.line X.env = pure true:=by rfl)
  (hs:∀ x,foldedSetIterable iter X.env x = pure x:=by intro _; rfl) (hf:X.fn x = true ∨ X.env.scope.names.lookup x = some .local:=by first | exact .inl rfl | exact .inr rfl | assumption) :
  PS X (.Assign [.Name x pos'] (.ListComp elt [⟨tg,iter,ifs,0⟩] scope pos) pos2) (tAsg (tComp wi fr g tt te) (gName i)):=by
 intro pins s σ H Dd I h
 have C:=C.ok I.ok
 rw [exec_Assign_Name_used _ _ _ _ hsw]
 refine wpAny_bind (wpAny_standAt (wpAny_bind ?_))
 show wpAny _ X.A (do let _ ← comprehension (.ListComp elt [⟨tg,iter,ifs,0⟩] scope pos) scope X.env _ (newList []) false (eval iter X.env) (some (assign (.Name x pos') X.env))) _ _ s
 refine wpAny_bind (wpAny_mono (wpAny_comprehension_free (use:=some (assign (.Name x pos') X.env)) (Q:=fun _ s' => SP X pins Dd .next s') rfl hs C.clos C.kind C.names
  (Y9 (hi pins s σ H _ I h) fun v s1 h1 => Y9 h1 fun itv s2 h2 => ?_)) (fun _ s' hq => wpAny_pure (wpAny_pure hq)) fun _ _ e => e)
 obtain ⟨it,fp,tn,J,H2,e,I2,T,st2,f2,hW⟩:=h2
 subst e
 refine comp_run (RR:=fun acc Cc => compPost (model X.prog X.w) X.A X.xe (some (assign (.Name x pos') X.env)) (fun _ s' => SP X pins Dd .next s') acc Cc) hc C hg ht he I2 T st2 f2 hW ?_
 intro D Cc s' fl H' m I' f0 f1 f2' f3 f4 f5 hns fi
 show wpAny _ X.A (assign (.Name x pos') X.env (.ref D)) _ _ _
 refine wpAny_assign_Name (store_ok2 (v:=.ref D) I' hN hix hx rfl (fun s3 I3 ⟨a,sb,ha⟩ => ?_) hf)
 have na:Cc ≠ a:=by
  rcases ha with z | z
  ·rw [z]; exact f1
  ·exact fun q => f4 x a z q.symm
 refine ⟨m,hns.sameBut sb na,fun h' sb' => ?_⟩
 exact ⟨_,H',I3.turned (t':=s3.toks) (fun b o hb e => (sb'.2 b hb).trans e) f0 f1 (.inr f3) f4 f5,fi⟩
end
theorem comp_tup {K:W.Frag} {a D:Addr} {xs:List V} {g:TG} {tt:TT} {te:TE} {fin:Hp→Prop} {σ0:St} {H0:Hp} (Pv:Nat→List V→St→Hp→Prop) (h0:Pv 0 [] σ0 H0)
  (hq:∀ i ys σ H,i ≤ xs.length→Pv i ys σ H→Z9 K H a xs∧H D = some (.lst ys))
  (hs:∀ i x ys σ H,xs[i]? = some x→Pv i ys σ H→g x σ H fun σ2 H2 => tt σ2 H2 fun ok H3 => if ok = true then te σ2 H3 fun y H4 => H4 D = some (.lst ys)∧ys.length < sizeLine∧Pv (i + 1) (ys ++ [y]) σ2 (Z4 H4 D (.lst (ys ++ [y]))) else Pv (i + 1) ys σ2 H3)
  (hd:∀ ys σ H,Pv xs.length ys σ H→fin H):∃ W:Nat→Nat→List V→St→Hp→Prop,(∃ m,W 0 m [] σ0 H0)∧CompW (Itt K a) g tt te D W fin:=by
 refine ⟨fun i m ys σ H => m = xs.length - i∧i ≤ xs.length∧Pv i ys σ H,⟨xs.length,by simp,Nat.zero_le _,h0⟩, ?_⟩
 rintro i m ys σ H ⟨rfl,hi,p⟩
 obtain ⟨q,hD⟩:=hq i ys σ H hi p
 refine ⟨hD, ?_⟩
 by_cases hlt:i < xs.length
 ·refine .inr ⟨⟨xs,xs[i],q,by simp [hlt]⟩,Pv (i + 1),fun ys' σ' H' p' => ⟨xs.length - (i + 1),by omega,rfl,hlt,p'⟩,fun x H' y => ?_⟩
  obtain ⟨e,y⟩:=y
  subst e
  exact hs i x ys σ _ (y xs q) p
 ·have e:i = xs.length:=by omega
  subst e
  exact .inl ⟨⟨xs,q,Nat.le_refl _⟩,hd ys σ H p⟩
theorem comp_list {K:W.Frag} {a D:Addr} {xs:List V} {g:TG} {tt:TT} {te:TE} {fin:Hp→Prop} {σ0:St} {H0:Hp} (Pv:Nat→List V→St→Hp→Prop) (h0:Pv 0 [] σ0 H0)
  (hq:∀ i ys σ H,i ≤ xs.length→Pv i ys σ H→Ym K H a xs∧H D = some (.lst ys))
  (hs:∀ i x ys σ H,xs[i]? = some x→Pv i ys σ H→g x σ H fun σ2 H2 => tt σ2 H2 fun ok H3 => if ok = true then te σ2 H3 fun y H4 => H4 D = some (.lst ys)∧ys.length < sizeLine∧Pv (i + 1) (ys ++ [y]) σ2 (Z4 H4 D (.lst (ys ++ [y]))) else Pv (i + 1) ys σ2 H3)
  (hd:∀ ys σ H,Pv xs.length ys σ H→fin H):∃ W:Nat→Nat→List V→St→Hp→Prop,(∃ m,W 0 m [] σ0 H0)∧CompW (Itl K a) g tt te D W fin:=by
 refine ⟨fun i m ys σ H => m = xs.length - i∧i ≤ xs.length∧Pv i ys σ H,⟨xs.length,by simp,Nat.zero_le _,h0⟩, ?_⟩
 rintro i m ys σ H ⟨rfl,hi,p⟩
 obtain ⟨q,hD⟩:=hq i ys σ H hi p
 refine ⟨hD, ?_⟩
 by_cases hlt:i < xs.length
 ·refine .inr ⟨⟨xs,xs[i],q,by simp [hlt]⟩,Pv (i + 1),fun ys' σ' H' p' => ⟨xs.length - (i + 1),by omega,rfl,hlt,p'⟩,fun x H' y => ?_⟩
  obtain ⟨e,y⟩:=y
  subst e
  exact hs i x ys σ _ (y xs q) p
 ·have e:i = xs.length:=by omega
  subst e
  exact .inl ⟨⟨xs,q,Nat.le_refl _⟩,hd ys σ H p⟩
theorem comp_range {lo:Int} {n:Nat} {D:Addr} {g:TG} {tt:TT} {te:TE} {fin:Hp→Prop} {σ0:St} {H0:Hp} (Pv:Nat→List V→St→Hp→Prop) (h0:Pv 0 [] σ0 H0)
  (hq:∀ i ys σ H,i ≤ n→Pv i ys σ H→H D = some (.lst ys))
  (hs:∀ i ys σ H,i < n→Pv i ys σ H→g (.int (lo + i)) σ H fun σ2 H2 => tt σ2 H2 fun ok H3 => if ok = true then te σ2 H3 fun y H4 => H4 D = some (.lst ys)∧ys.length < sizeLine∧Pv (i + 1) (ys ++ [y]) σ2 (Z4 H4 D (.lst (ys ++ [y]))) else Pv (i + 1) ys σ2 H3)
  (hd:∀ ys σ H,Pv n ys σ H→fin H):∃ W:Nat→Nat→List V→St→Hp→Prop,(∃ m,W 0 m [] σ0 H0)∧CompW (Itr lo n) g tt te D W fin:=by
 refine ⟨fun i m ys σ H => m = n - i∧i ≤ n∧Pv i ys σ H,⟨n,by simp,Nat.zero_le _,h0⟩, ?_⟩
 rintro i m ys σ H ⟨rfl,hi,p⟩
 refine ⟨hq i ys σ H hi p, ?_⟩
 by_cases hlt:i < n
 ·refine .inr ⟨hlt,Pv (i + 1),fun ys' σ' H' p' => ⟨n - (i + 1),by omega,rfl,hlt,p'⟩,fun x H' y => ?_⟩
  obtain ⟨e,y⟩:=y
  subst e y
  exact hs i ys σ _ hlt p
 ·have e:i = n:=by omega
  subst e
  exact .inl ⟨Nat.le_refl _,hd ys σ H p⟩
end L2
namespace SetM
open PySem
def Ris (xs:Array Nat):Prop:=∀ a b (h:a < b) (hb:b < xs.size),xs[a]'(Nat.lt_trans h hb) < xs[b]
theorem getD_in {xs:Array Nat} {i d:Nat} (h:i < xs.size):xs.getD i d = xs[i]:=by simp [Array.getD,h]
theorem go_spec {xs:Array Nat} {j:Nat} (hr:Ris xs):∀ (fuel lo hi:Nat),hi - lo ≤ fuel→lo ≤ hi→hi ≤ xs.size→(∀ i (h:i < xs.size),i < lo→xs[i] < j)→(∀ i (h:i < xs.size),hi ≤ i→j ≤ xs[i]) →
  (∀ i (h:i < xs.size),i < SetTable.below.go xs j fuel lo hi→xs[i] < j)∧(∀ i (h:i < xs.size),SetTable.below.go xs j fuel lo hi ≤ i→j ≤ xs[i])∧SetTable.below.go xs j fuel lo hi ≤ xs.size
 | 0,lo,hi,hf,hl,hs,h1,h2 => by
  have e:lo = hi:=by omega
  subst e
  simp only [SetTable.below.go]
  exact ⟨h1,h2,hs⟩
 | fuel + 1,lo,hi,hf,hl,hs,h1,h2 => by
  simp only [SetTable.below.go]
  by_cases h:lo < hi
  ·rw [if_pos h]
   have hm:(lo + hi) / 2 < xs.size:=by omega
   rw [getD_in hm]
   by_cases hc:xs[(lo + hi) / 2] < j
   ·rw [if_pos hc]
    refine go_spec hr fuel _ _ (by omega) (by omega) hs (fun i hi' hlt => ?_) h2
    rcases Nat.lt_or_ge i ((lo + hi) / 2) with z | z
    ·exact Nat.lt_trans (hr i _ z hm) hc
    ·have e:i = (lo + hi) / 2:=by omega
     subst e; exact hc
   ·rw [if_neg hc]
    refine go_spec hr fuel _ _ (by omega) (by omega) (by omega) h1 (fun i hi' hle => ?_)
    rcases Nat.lt_or_ge ((lo + hi) / 2) i with z | z
    ·have:=hr _ i z hi'; omega
    ·have e:i = (lo + hi) / 2:=by omega
     subst e; omega
  ·rw [if_neg h]
   have e:lo = hi:=by omega
   subst e
   exact ⟨h1,h2,hs⟩
theorem below_spec {xs:Array Nat} {j:Nat} (hr:Ris xs):(∀ i (h:i < xs.size),i < SetTable.below xs j→xs[i] < j)∧(∀ i (h:i < xs.size),SetTable.below xs j ≤ i→j ≤ xs[i])∧SetTable.below xs j ≤ xs.size :=
 go_spec hr xs.size 0 xs.size (by omega) (by omega) (Nat.le_refl _) (fun i _ h => by omega) (fun i h h' => by omega)
theorem below_next {xs:Array Nat} (hr:Ris xs) {i:Nat} (h:i < xs.size):SetTable.below xs (xs[i] + 1) = i + 1:=by
 obtain ⟨h1,h2,h3⟩:=below_spec (j:=xs[i] + 1) hr
 rcases Nat.lt_trichotomy (SetTable.below xs (xs[i] + 1)) (i + 1) with z | z | z
 ·have:=h2 i h (by omega); omega
 ·exact z
 ·have hi:i + 1 < xs.size:=by omega
  have:=h1 (i + 1) hi z
  have:=hr i (i + 1) (by omega) hi
  omega
theorem below_zero {xs:Array Nat} (hr:Ris xs):SetTable.below xs 0 = 0:=by
 obtain ⟨h1,h2,h3⟩:=below_spec (j:=0) hr
 rcases Nat.eq_zero_or_pos (SetTable.below xs 0) with z | z
 ·exact z
 ·have:=h1 0 (by omega) z; omega
theorem ris_range (n:Nat):Ris (Array.range n):=fun a b h hb => by simp; omega
theorem insert_get {xs:Array Nat} {p j:Nat} (hp:p ≤ xs.size):∀ i,(SetTable.insertAt xs p j)[i]? = if i < p then xs[i]? else if i = p then some j else xs[i - 1]?:=by
 intro i
 unfold SetTable.insertAt
 have hs1:((xs.extract 0 p).push j).size = p + 1:=by simp; omega
 rw [Array.getElem?_append,hs1]
 by_cases h1:i < p + 1
 ·rw [if_pos h1,Array.getElem?_push]
  have hs2:(xs.extract 0 p).size = p:=by simp; omega
  rw [hs2]
  by_cases h2:i = p
  ·rw [if_pos h2,if_neg (by omega),if_pos h2]
  ·rw [if_neg h2,if_pos (by omega)]
   rw [Array.getElem?_extract]
   simp
   omega
 ·rw [if_neg h1,if_neg (by omega),if_neg (by omega)]
  rw [Array.getElem?_extract]
  have e:p + (i - (p + 1)) = i - 1:=by omega
  rw [e]
  simp
  intro h
  omega
theorem insert_size {α:Type} {xs:Array α} {p:Nat} {j:α} (hp:p ≤ xs.size):(SetTable.insertAt xs p j).size = xs.size + 1:=by
 unfold SetTable.insertAt
 simp
 omega
theorem ris_put {xs:Array Nat} {j:Nat} (hr:Ris xs) (hn:xs[SetTable.below xs j]? ≠ some j):Ris (SetTable.insertAt xs (SetTable.below xs j) j):=by
 obtain ⟨h1,h2,h3⟩:=below_spec (j:=j) hr
 generalize hk:SetTable.below xs j = k at h1 h2 h3 hn
 have g:=insert_get (xs:=xs) (j:=j) h3
 intro a b hab hb
 rw [insert_size h3] at hb
 have ga:=g a
 have gb:=g b
 have ha':a < (SetTable.insertAt xs k j).size:=by rw [insert_size h3]; omega
 have hb':b < (SetTable.insertAt xs k j).size:=by rw [insert_size h3]; omega
 rw [Array.getElem?_eq_getElem ha'] at ga
 rw [Array.getElem?_eq_getElem hb'] at gb
 have strict:∀ i (h:i < xs.size),k ≤ i→j < xs[i]:=fun i h hk' => by
  have hle:=h2 i h hk'
  rcases Nat.lt_or_ge k i with z | z
  ·have hkz:k < xs.size:=by omega
   have:=hr k i z h
   have:=h2 k hkz (Nat.le_refl _)
   omega
  ·have e:i = k:=by omega
   subst e
   rw [Array.getElem?_eq_getElem h] at hn
   have:xs[i] ≠ j:=fun q => hn (by rw [q])
   omega
 by_cases a1:a < k
 ·rw [if_pos a1,Array.getElem?_eq_getElem (by omega)] at ga
  have ga':=Option.some.inj ga
  by_cases b1:b < k
  ·rw [if_pos b1,Array.getElem?_eq_getElem (by omega)] at gb
   have gb':=Option.some.inj gb
   rw [ga',gb']
   exact hr a b hab (by omega)
  ·rw [if_neg b1] at gb
   by_cases b2:b = k
   ·rw [if_pos b2] at gb
    have gb':=Option.some.inj gb
    rw [ga',gb']
    exact h1 a (by omega) a1
   ·rw [if_neg b2,Array.getElem?_eq_getElem (by omega)] at gb
    have gb':=Option.some.inj gb
    rw [ga',gb']
    exact hr a (b - 1) (by omega) (by omega)
 ·rw [if_neg a1] at ga
  rw [if_neg (by omega),if_neg (by omega),Array.getElem?_eq_getElem (by omega)] at gb
  have gb':=Option.some.inj gb
  by_cases a2:a = k
  ·rw [if_pos a2] at ga
   have ga':=Option.some.inj ga
   rw [ga',gb']
   exact strict (b - 1) (by omega) (by omega)
  ·rw [if_neg a2,Array.getElem?_eq_getElem (by omega)] at ga
   have ga':=Option.some.inj ga
   rw [ga',gb']
   exact hr (a - 1) (b - 1) (by omega) (by omega)
structure TabI (t:SetTable) (n:Nat):Prop where
 size:t.place.size = n
 dum:t.dummies = #[]
 ris:Ris t.place
 room:n ≤ t.mask
theorem TabI.fits {t:SetTable} {n:Nat} (h:TabI t n):t.fits n = true:=by
 unfold SetTable.fits SetTable.fill
 rw [h.dum,h.size]
 simp
 exact h.room
theorem tab_fresh (f m:Nat) (led:Bool):TabI (SetTable.fresh f m led) 0:=⟨rfl,rfl,fun a b _ hb => by simp [SetTable.fresh] at hb,Nat.zero_le _⟩
theorem tab_standIn (t:SetTable) (n:Nat):TabI (t.standIn n) n:=⟨by simp [SetTable.standIn],rfl,ris_range n,by simp [SetTable.standIn]; omega⟩
theorem has_nil (j:Nat):SetTable.has #[] j = false:=by simp [SetTable.has]
theorem tab_orStandIn {t:SetTable} {n:Nat} (hs:t.place.size = n) (hd:t.dummies = #[]) (hr:Ris t.place):TabI (t.orStandIn n) n:=by
 unfold SetTable.orStandIn
 split
 ·rename_i h
  refine ⟨hs,hd,hr, ?_⟩
  unfold SetTable.fits SetTable.fill at h
  rw [hd,hs] at h
  simpa using h
 ·exact tab_standIn t n
theorem probe_empty {t:SetTable} (hd:t.dummies = #[]) {f:Nat→Int} {h:Int} {j:Nat} {dm:Option Nat}:∀ (fuel:Nat) (p:SetTable.Probe),p.dummy = none→SetTable.probe.go t f h fuel p = some (.empty j dm)→dm = none∧t.place[SetTable.below t.place j]? ≠ some j
 | 0,p,_,e => by simp [SetTable.probe.go] at e
 | fuel + 1,p,hp,e => by
  have adv:(t.advance p).dummy = none:=by
   unfold SetTable.advance
   split
   ·exact hp
   ·exact hp
  simp only [SetTable.probe.go] at e
  cases hs:t.slot p.j with
  | empty =>
   rw [hs] at e
   simp only [Option.some.injEq,SetTable.Met.empty.injEq] at e
   obtain ⟨e1,e2⟩:=e
   subst e1
   refine ⟨by rw [← e2,hp],fun q => ?_⟩
   unfold SetTable.slot at hs
   simp [q] at hs
  | dummy =>
   exfalso
   unfold SetTable.slot at hs
   simp only [hd,has_nil] at hs
   split at hs <;> simp at hs
  | live i =>
   rw [hs] at e
   simp only at e
   split at e
   ·simp at e
   ·exact probe_empty hd fuel _ adv e
theorem tab_layNew {t:SetTable} {es:Array (Int × Value)} (h:TabI t es.size) (k:Int) (x:Value):TabI (layNew t es k x).2.1 (layNew t es k x).1.size:=by
 unfold layNew
 cases hf:t.freeSlot k with
 | none =>
  simp only
  have:(es.push (k,x)).size = es.size + 1:=by simp
  rw [this]
  exact tab_standIn t _
 | some sw =>
  obtain ⟨slot,wd⟩:=sw
  simp only
  unfold SetTable.freeSlot at hf
  have hn:t.place[SetTable.below t.place slot]? ≠ some slot:=by
   cases hp:t.probe (fun _ => k + 1) k (t.probeStart k) with
   | none => rw [hp] at hf; simp at hf
   | some m =>
    rw [hp] at hf
    cases m with
    | candidate a b c => simp at hf
    | empty j dm =>
     obtain ⟨e1,e2⟩:=probe_empty h.dum _ (t.probeStart k) rfl hp
     subst e1
     simp at hf
     rw [← hf.1]
     exact e2
  obtain ⟨_,_,hb⟩:=below_spec (j:=slot) h.ris
  have hb':SetTable.below t.place slot ≤ es.size:=by rw [← h.size]; exact hb
  have e1:(t.put slot).2 = SetTable.below t.place slot:=rfl
  refine tab_orStandIn ?_ ?_ ?_
  ·rw [e1,insert_size hb']
   show (SetTable.insertAt t.place (SetTable.below t.place slot) slot).size = es.size + 1
   rw [insert_size hb,h.size]
  ·show (if SetTable.has t.dummies slot then _ else t.dummies) = #[]
   rw [h.dum,has_nil]
   rfl
  ·exact ris_put h.ris hn
theorem layNew_led {t:SetTable} {es:Array (Int × Value)} (k:Int) (x:Value):(layNew t es k x).2.1.led = t.led:=by
 unfold layNew
 split
 ·simp only [SetTable.orStandIn]
  split <;> rfl
 ·rfl
theorem range_live (n:Nat) (g:Nat→Option Nat):((List.range n).filterMap fun j => (g j).map (j, ·)).Pairwise fun a b => a.1 < b.1:=by
 rw [List.pairwise_filterMap]
 refine List.Pairwise.imp ?_ List.pairwise_lt_range
 intro a b hab c hc d hd
 cases ha:g a with
 | none => rw [ha] at hc; simp at hc
 | some u =>
  cases hb:g b with
  | none => rw [hb] at hd; simp at hd
  | some v =>
   rw [ha] at hc
   rw [hb] at hd
   simp at hc hd
   rw [← hc, ← hd]
   exact hab
theorem tab_relayAll {t:SetTable} {es:Array (Int × Value)} (wanted:Nat):TabI (relayAll t es wanted).2.1 (relayAll t es wanted).1.size:=by
 unfold relayAll
 cases hr:t.relaid (es.map (·.1)) wanted with
 | none => exact tab_standIn t _
 | some to =>
  obtain ⟨t',order⟩:=to
  simp only
  split
  ·rename_i hc
   unfold SetTable.relaid SetTable.laid at hr
   cases hl:SetTable.layClean (SetTable.sizeAbove wanted - 1) (es.map (·.1)) with
   | none => rw [hl] at hr; simp at hr
   | some owner =>
    rw [hl] at hr
    simp at hr
    obtain ⟨h1,h2⟩:=hr
    have hfit:=(Bool.and_eq_true_iff.mp hc).2
    have hd:t'.dummies = #[]:=by rw [← h1]
    refine ⟨?_,hd, ?_, ?_⟩
    ·unfold SetTable.fits at hfit
     simp at hfit
     exact hfit.1
    ·rw [← h1]
     intro a b hab hb
     have hp:=range_live (SetTable.sizeAbove wanted - 1 + 1) (fun j => owner[j]?.getD none)
     have hp2:(((List.range (SetTable.sizeAbove wanted - 1 + 1)).filterMap fun j => (owner[j]?.getD none).map (j, ·)).map fun p => p.1).Pairwise (· < ·):=List.pairwise_map.mpr hp
     simp only [List.getElem_toArray]
     exact List.pairwise_iff_getElem.mp hp2 a b _ _ hab
    ·unfold SetTable.fits SetTable.fill at hfit
     rw [hd] at hfit
     simp at hfit
     exact (hfit.1 ▸ hfit.2:_)
  ·exact tab_standIn t _
theorem relayAll_led {t:SetTable} {es:Array (Int × Value)} (wanted:Nat):(relayAll t es wanted).2.1.led = t.led:=by
 unfold relayAll
 cases hr:t.relaid (es.map (·.1)) wanted with
 | none => rfl
 | some to =>
  obtain ⟨t',order⟩:=to
  simp only
  split
  ·unfold SetTable.relaid SetTable.laid at hr
   cases hl:SetTable.layClean (SetTable.sizeAbove wanted - 1) (es.map (·.1)) with
   | none => rw [hl] at hr; simp at hr
   | some owner =>
    rw [hl] at hr
    simp at hr
    rw [← hr.1]
  ·rfl
theorem paired_perm {α β:Type} {F:α→β→Prop} {l l':List β} (p:l'.Perm l):∀ {ks:List α},Paired F ks l→∃ ks',Paired F ks' l'∧ks'.Perm ks:=by
 induction p with
 | nil => intro ks h; cases h; exact ⟨[],.nil,.nil⟩
 | cons x p ih =>
  intro ks h
  cases h with
  | cons r t =>
   obtain ⟨ks',h1,h2⟩:=ih t
   exact ⟨_ :: ks',.cons r h1,h2.cons _⟩
 | swap x y l =>
  intro ks h
  cases h with
  | cons r t =>
   cases t with
   | cons r' t' => exact ⟨_ :: _ :: _,.cons r' (.cons r t'),.swap _ _ _⟩
 | trans p1 p2 ih1 ih2 =>
  intro ks h
  obtain ⟨k1,h1,h2⟩:=ih2 h
  obtain ⟨k2,h3,h4⟩:=ih1 h1
  exact ⟨k2,h3,h4.trans h2⟩
theorem paired_mem {α β:Type} {F:α→β→Prop}:∀ {ks:List α} {l:List β},Paired F ks l→∀ k ∈ ks,∃ e ∈ l,F k e
 | _,_,.nil,k,h => by cases h
 | _,_,.cons r t,k,h => by
  rcases List.mem_cons.mp h with z | z
  ·subst z; exact ⟨_,List.mem_cons_self,r⟩
  ·obtain ⟨e,h1,h2⟩:=paired_mem t k z
   exact ⟨e,List.mem_cons_of_mem _ h1,h2⟩
theorem paired_mem' {α β:Type} {F:α→β→Prop}:∀ {ks:List α} {l:List β},Paired F ks l→∀ e ∈ l,∃ k ∈ ks,F k e
 | _,_,.nil,k,h => by cases h
 | _,_,.cons r t,k,h => by
  rcases List.mem_cons.mp h with z | z
  ·subst z; exact ⟨_,List.mem_cons_self,r⟩
  ·obtain ⟨e,h1,h2⟩:=paired_mem' t k z
   exact ⟨e,List.mem_cons_of_mem _ h1,h2⟩
section
variable {prog:Program} {w:World} {K:Type} [DecidableEq K] (knd:KeyKind prog w K)
structure SetO (o:Obj) (ks:List K):Prop where
 ex:o.ExactSet
 dat:∃ es ep t,o.data = .set es ep t∧ElemsOf knd es.toList∧Paired (fun k (e:Int × Value) => knd.is k e.2 = true) ks es.toList∧es.size < scanBound∧TabI t es.size∧t.led = !(w.params.followText "set-order")
 nd:ks.Nodup
def SetG (h:Heap) (a:Addr) (ks:List K):Prop:=∃ o,h.get? a = some o∧SetO knd o ks
variable {knd} {A:Around} {E:Value→Shared→Prop} {s:Shared} {a:Addr}
theorem SetO.len {o:Obj} {ks:List K} (h:SetO knd o ks):ks.length < scanBound:=by
 obtain ⟨es,ep,t,_,_,p,b,_⟩:=h.dat
 rw [p.length,Array.length_toList]
 exact b
theorem store_back {o:Obj} {es es':Array (Int × Value)} {ep:Nat} {t t':SetTable} {ks':List K} {h:Heap} (ho:h.get? a = some o) (hex:o.ExactSet) (hd:o.data = .set es ep t) (el:ElemsOf knd es'.toList)
  (pr:Paired (fun k (e:Int × Value) => knd.is k e.2 = true) ks' es'.toList) (hb:es'.size < scanBound) (ti:TabI t' es'.size) (hl:t'.led = !(w.params.followText "set-order")) (nd:ks'.Nodup) :
  (h.update a (Obj.putSet es' t')).get? a = some { o with data:=.set es' (ep + 1) t' }∧SetO knd { o with data:=.set es' (ep + 1) t' } ks':=by
 have mem:∀ k',(decide (k' ∈ ks')) = true ↔ ∃ e ∈ es'.toList,knd.is k' e.2 = true:=fun k' => by
  rw [decide_eq_true_eq]
  constructor
  ·exact fun hk => paired_mem pr k' hk
  ·rintro ⟨e,he,hq⟩
   obtain ⟨k2,h1,h2⟩:=paired_mem' pr e he
   rw [knd.inj e.2 k' k2 hq h2]
   exact h1
 obtain ⟨e1,o2,es2,ep2,t2,e2,ex2,d2,_⟩:=SetOf_store (knd:=knd) ho hex hd el mem hb ti.fits
 rw [e1] at e2
 cases e2
 exact ⟨e1,⟨ex2,⟨es',ep + 1,t',rfl,el,pr,hb,ti,hl⟩,nd⟩⟩
theorem set_add {ks:List K} {k:K} {x:Value} {Q:Bool→Shared→Prop} (hkey:knd.is k x = true) (hsc:x.scannable = true) (hS:SetG knd s.heap a ks) (hroom:ks.length + 1 < scanBound)
  (h:∀ h' ks',Heap.SameBut a s.heap h'→SetG knd h' a ks'→ks'.Perm (if k ∈ ks then ks else ks ++ [k])→Q (!decide (k ∈ ks)) { s with heap:=h' }) :
  wpAny (model prog w) A (setAddHashed a x (knd.hash k)) Q E s:=by
 obtain ⟨o,ho,S⟩:=hS
 obtain ⟨es,ep,t,hd,hel,pr,hb,ti,hled⟩:=S.dat
 have hlen:ks.length = es.size:=by rw [pr.length,Array.length_toList]
 unfold setAddHashed setAddHashedIn
 refine wpAny_holding (wpAny_bind (wpAny_setState_of ho hd ti.fits ?_))
 dsimp only
 rw [byScan_of hsc hb hel]
 simp only [↓reduceIte]
 unfold setAddByScan
 refine wpAny_bind (wpAny_bind (wpAny_rule (wpAny_bind (wpAny_setScan_of hkey ho hd ti.fits hel ?_))))
 cases hr:List.findIdx? (fun e => knd.is k e.2) es.toList with
 | some j =>
  dsimp only
  obtain ⟨hj,hpj,_⟩:=List.findIdx?_eq_some_iff_getElem.mp hr
  have hk:k ∈ ks:=by
   obtain ⟨k2,h1,h2⟩:=paired_mem' pr _ (List.getElem_mem hj)
   rw [knd.inj _ k k2 hpj h2]
   exact h1
  have q:=h s.heap ks (Heap.SameBut.refl a s.heap) ⟨o,ho,S⟩ (by rw [if_pos hk])
  rw [decide_eq_true hk] at q
  exact wpAny_pure (wpAny_pure q)
 | none =>
  dsimp only
  have hk:k ∉ ks:=fun hm => by
   obtain ⟨e,he,hq⟩:=paired_mem pr k hm
   have z:=List.findIdx?_eq_none_iff.mp hr e he
   rw [hq] at z
   cases z
  have gw:∀ (b:Bool) {s₁:Shared} {Q':Unit→Shared→Prop},Q' () s₁→wpAny (model prog w) A (match b with | true => rule "set.scan.the-table-gave-way" | false => pure ()) Q' E s₁ :=
   fun b s₁ Q' hq => by cases b <;> first | exact wpAny_pure hq | exact wpAny_rule hq
  have perm0:=layNew_perm t es (knd.hash k) x
  have tab1:=tab_layNew (t:=t) ti (knd.hash k) x
  have led1:=layNew_led (t:=t) (es:=es) (knd.hash k) x
  generalize hL:layNew t es (knd.hash k) x = L at perm0 tab1 led1 ⊢
  obtain ⟨es1,t1,wasDummy,gave⟩:=L
  dsimp only at perm0 tab1 led1 ⊢
  rw [Array.toList_push] at perm0
  have el1:ElemsOf knd es1.toList:=(hel.push hkey hsc).perm perm0
  have pr0:Paired (fun k (e:Int × Value) => knd.is k e.2 = true) (ks ++ [k]) (es.toList ++ [(knd.hash k,x)]):=Paired.snoc pr hkey
  obtain ⟨ks1,pr1,pk1⟩:=paired_perm perm0 pr0
  have nd1:ks1.Nodup:=pk1.nodup_iff.mpr (List.nodup_append.mpr ⟨S.nd,List.nodup_cons.mpr ⟨by simp,List.nodup_nil⟩,fun u hu v hv => by
   rw [List.mem_singleton.mp hv]; exact fun z => hk (z ▸ hu)⟩)
  have sz1:es1.size = es.size + 1:=by
   have:=perm0.length_eq
   rw [List.length_append,Array.length_toList,Array.length_toList] at this
   simpa using this
  have hb1:es1.size < scanBound:=by omega
  refine wpAny_bind (gw _ ?_)
  have tailOk:∀ t2:SetTable,TabI t2 es1.size→t2.led = t.led→wpAny (model prog w) A (do
    storeSet a es1 t2
    if (!wasDummy && t2.tooFull) = true then do
      (match (relayAll t2 es1 (SetTable.grown es1.size)).2.2 with | true => rule "set.scan.the-table-gave-way" | false => pure ())
      storeSet a (relayAll t2 es1 (SetTable.grown es1.size)).1 (relayAll t2 es1 (SetTable.grown es1.size)).2.1
      pure (some true)
     else pure (some true)) (fun b s' => b = some true∧∃ h' ks',s' = { s with heap:=h' }∧Heap.SameBut a s.heap h'∧SetG knd h' a ks'∧ks'.Perm (ks ++ [k])) E s:=by
   intro t2 ti2 hl2
   refine wpAny_bind (wpAny_storeSet_of ho hd ?_ (fits_of_scanBound hb1))
   obtain ⟨g1,S1⟩:=store_back (knd:=knd) ho S.ex hd el1 pr1 hb1 ti2 (hl2.trans hled) nd1
   have sb1:=Heap.SameBut.update s.heap a (Obj.putSet es1 t2)
   split
   ·have hp:=relayAll_perm t2 es1 (SetTable.grown es1.size)
    have ti3:=tab_relayAll (t:=t2) (es:=es1) (SetTable.grown es1.size)
    have led3:=relayAll_led (t:=t2) (es:=es1) (SetTable.grown es1.size)
    generalize relayAll t2 es1 (SetTable.grown es1.size) = Rl at hp ti3 led3 ⊢
    obtain ⟨es2,t3,gave2⟩:=Rl
    dsimp only at hp ti3 led3 ⊢
    obtain ⟨ks2,pr2,pk2⟩:=paired_perm hp pr1
    have sz2:es2.size = es1.size:=by
     have:=hp.length_eq
     rwa [Array.length_toList,Array.length_toList] at this
    have hb2:es2.size < scanBound:=by omega
    refine wpAny_bind (gw _ ?_)
    refine wpAny_bind (wpAny_storeSet_of g1 rfl ?_ (fits_of_scanBound hb2))
    obtain ⟨g2,S2⟩:=store_back (knd:=knd) g1 S1.ex rfl (el1.perm hp) pr2 hb2 ti3 (led3.trans (hl2.trans hled)) (pk2.nodup_iff.mpr nd1)
    exact wpAny_pure ⟨rfl,_,ks2,rfl,sb1.trans (Heap.SameBut.update _ a _),⟨_,g2,S2⟩,pk2.trans pk1⟩
   ·exact wpAny_pure ⟨rfl,_,ks1,rfl,sb1,⟨_,g1,S1⟩,pk1⟩
  have fin:∀ b s',(b = some true∧∃ h' ks',s' = { s with heap:=h' }∧Heap.SameBut a s.heap h'∧SetG knd h' a ks'∧ks'.Perm (ks ++ [k])) →
    wpAny (model prog w) A (match b with | some added => pure added | none => setAddHashedIn a x (knd.hash k) 99999) Q E s':=by
   rintro b s' ⟨rfl,h',ks',rfl,sb,g,pk⟩
   have q:=h h' ks' sb g (by rw [if_neg hk]; exact pk)
   rw [decide_eq_false hk] at q
   exact wpAny_pure q
  split
  ·refine wpAny_bind ?_
   rw [hashByValue_scannable 8 hsc]
   refine wpAny_pure ?_
   refine wpAny_mono (tailOk _ ?_ ?_) fin fun _ _ z => z
   ·split
    ·exact tab1
    ·exact ⟨tab1.size,tab1.dum,tab1.ris,tab1.room⟩
   ·split
    ·exact led1
    ·exact led1
  ·refine wpAny_bind (wpAny_pure ?_)
   simp only [↓reduceIte]
   exact wpAny_mono (tailOk _ tab1 led1) fin fun _ _ z => z
end
end SetM
namespace SetM
open PySem PyProof.Rows
section
variable {prog:Program} {w:World} {K:Type} [DecidableEq K] {knd:KeyKind prog w K}
theorem SetG.at' {h h':Heap} {a:Addr} {ks:List K} (x:SetG knd h a ks) (e:∀ o,h.get? a = some o→h'.get? a = some o):SetG knd h' a ks:=let ⟨o,ho,S⟩:=x; ⟨o,e o ho,S⟩
structure Upto (val:Nat→K) (i:Nat) (ks:List K):Prop where
 mem:∀ x,x ∈ ks ↔ ∃ j,j < i∧val j = x
 len:ks.length ≤ i
theorem Upto.zero (val:Nat→K):Upto val 0 []:=⟨fun x => ⟨fun z => absurd z List.not_mem_nil,fun ⟨j,z,_⟩ => absurd z (Nat.not_lt_zero _)⟩,Nat.le_refl _⟩
theorem Upto.next {val:Nat→K} {i:Nat} {ks ks':List K} (u:Upto val i ks) (pk:ks'.Perm (if val i ∈ ks then ks else ks ++ [val i])):Upto val (i + 1) ks':=by
 refine ⟨fun x => ?_, ?_⟩
 ·rw [pk.mem_iff]
  constructor
  ·intro hx
   have hx':x ∈ ks ∨ x = val i:=by
    split at hx
    ·exact .inl hx
    ·rcases List.mem_append.mp hx with hx | hx
     ·exact .inl hx
     ·exact .inr (List.mem_singleton.mp hx)
   rcases hx' with hx' | hx'
   ·obtain ⟨j,h1,h2⟩:=(u.mem x).mp hx'
    exact ⟨j,by omega,h2⟩
   ·exact ⟨i,by omega,hx'.symm⟩
  ·rintro ⟨j,h1,h2⟩
   by_cases hx:x ∈ ks
   ·split
    ·exact hx
    ·exact List.mem_append_left _ hx
   ·have e:j = i:=by
     rcases Nat.lt_or_ge j i with z | z
     ·exact absurd ((u.mem x).mpr ⟨j,z,h2⟩) hx
     ·omega
    subst e
    rw [h2,if_neg hx]
    exact List.mem_append_right _ (List.mem_singleton_self _)
 ·rw [pk.length_eq]
  have:=u.len
  split
  ·omega
  ·simp only [List.length_append,List.length_singleton]
   omega
variable {A:Around} {R:Result→Shared→Prop} {I:Addr} {fp wr:List Addr} {G:Array GenState→Array GenState→Prop} {n:Nat} {P:Nat→Value→Prop} {St:Nat→Shared→Prop}
theorem fill_loop (W:WalksS prog w A.in1 I fp wr G n P St) {a:Addr} (na:a ∉ fp) {val:Nat→K} (hval:∀ i v,P i v→knd.is (val i) v = true∧v.scannable = true) (hb:n + 1 < scanBound) (i:Nat) (s:Shared) (ks:List K)
  (hi:i ≤ n) (st:St i s) (hS:SetG knd s.heap a ks) (u:Upto val i ks) (fin:∀ s' ks',Moved (a :: wr) G s s'→SetG knd s'.heap a ks'→Upto val n ks'→R (.ok (.ret .none)) s') :
  codeAny (model prog w) A (.builtin "set.update.loop" ⟨[.ref a,.ref I],[]⟩) R s:=by
 have naw:a ∉ wr:=fun z => na (W.sub _ z)
 have more:∀ b ∈ wr,b ∈ a :: wr:=fun b z => List.mem_cons_of_mem _ z
 refine codeAny_builtin PyProof.Rows.F.entry_set_update_loop ?_
 rw [Around.under_plainId PyProof.Rows.F.plain_set_update_loop]
 refine wpAny_bind (m:=pyNext (.ref I)) ?_
 by_cases hlt:i < n
 ·refine W.item i s _ _ hlt st fun v s1 hP st1 mv => ?_
  obtain ⟨hv,hsc⟩:=hval i v hP
  have hS1:SetG knd s1.heap a ks:=hS.at' fun o e => mv.heap a o naw e
  refine wpAny_bind (m:=holding [v] (setAdd a v)) (wpAny_holding ?_)
  unfold setAdd
  refine wpAny_holding (wpAny_bind (knd.pyHash (k:=val i) hv ?_))
  have:=u.len
  refine set_add (knd:=knd) (s:={ s1 with toks:=s1.toks + 1 }) hv hsc hS1 (by omega) fun h2 ks2 sb hS2 pk => wpAny_pure ⟨plainId_quiet PyProof.Rows.F.plain_set_update_loop _, ?_⟩
  refine fill_loop W na hval hb (i + 1) { s1 with heap:=h2,toks:=s1.toks + 1 } ks2 hlt (W.frame _ s1 _ _ st1 (Nat.le_succ _) fun b hb' o e => ?_) hS2 (u.next pk) fun s3 ks3 mv3 hS3 u3 => ?_
  ·rw [sb.2 b fun z => na (z ▸ hb')]
   exact e
  ·refine fin s3 ks3 (Moved.trans W.gtrans ((mv.mono more).then_heap (Nat.le_succ _) fun b o hb' e => ?_) mv3) hS3 u3
   rw [sb.2 b fun z => hb' (z ▸ List.mem_cons_self)]
   exact e
 ·have e:i = n:=by omega
  subst e
  exact W.done s _ _ st fun s1 mv => wpAny_pure (fin s1 ks (mv.mono more) (hS.at' fun o e => mv.heap a o naw e) u)
termination_by n - i
end
section
variable {prog:Program} {w:World} {A:Around} {E:Value→Shared→Prop} {s:Shared}
theorem call_class {T newId initId:String} {args:List Value} {Q:Value→Shared→Prop} (ft:TypeCalled T newId initId) (hct:checkTypeCall T ⟨args,[]⟩ = pure ())
  (h:codeAny (model prog w) A.in1 (.call (.builtin newId) ⟨.type T :: args,[]⟩) (wants (fun obj s1 => s1.TypeIs obj T∧codeAny (model prog w) A.in1 (.call (.builtin initId) ⟨obj :: args,[]⟩) (wants (fun r s2 => r = .none∧Q obj s2) E) s1) E) s) :
  wpAny (model prog w) A (call (.type T) args) Q E s:=by
 have q1:=ft.notType
 have q2:=ft.canCreate
 have q3:=ft.made
 have q4:=ft.sub
 obtain ⟨c,tl,q5⟩:=ft.mro
 apply wpAny_call
 apply codeAny_of_tree
 change wpAny (model prog w) _ (callAny (Value.type T) ⟨args,[]⟩) _ _ s
 refine wpAny_pure (And.intro (Code.quiet_builtin _ (by decide +kernel)) (codeAny_builtin PySem.F.entry_type_call ?_))
 rw [Around.under_plain (weight_type_call_type T args []) (units_type_call_type T args [])]
 repeat (any_goals (first | assumption | wp_step))
 refine codeAny_mono h fun r s1 hr => ?_
 rcases r with e | fl
 ·exact hr
 ·cases fl with
  | ret obj =>
   obtain ⟨hT,hI⟩:=hr
   have q6:=ft.init.lookup
   have q7:=ft.init.bind obj
   repeat (any_goals (first | assumption | wp_step))
   refine codeAny_mono hI fun r2 s2 hr2 => ?_
   rcases r2 with e2 | fl2
   ·exact hr2
   ·cases fl2 with
    | ret r3 =>
     obtain ⟨rfl,q⟩:=hr2
     repeat (any_goals (first | assumption | wp_step))
    | _ => exact hr2.elim
  | _ => exact hr.elim
abbrev setObj (b:Bool):Obj:={ cls:=.type "set",dict:=none,data:=.set #[] 0 (.fresh 0 0 b) }
theorem new_set (x:Value) {Q1:Value→Shared→Prop} (h:Q1 (.ref s.heap.objs.size) { s with heap:=s.heap.push (setObj (!(w.params.followText "set-order"))) }) :
  codeAny (model prog w) A (.call (.builtin "set.__new__") ⟨[.type "set",x],[]⟩) (wants Q1 E) s:=by
 have q:=sub_set_self
 refine codeAny_call_builtin PySem.F.plain_set_new PySem.F.entry_set_new (wpAny_of_eq (PySem.F.newCall_set_1 x) ?_)
 unfold Builtin.«set.__new__» Builtin.Frozenset.newClass
 obtain ⟨hp,gs,dr,tk,so⟩:=s
 dsimp only
 wp_walk
 refine wpAny_askSetting (wpAny_pure ?_)
 dsimp only
 simp only [newObj]
 exact wpAny_bind (wpAny_alloc (wpAny_pure (wpAny_pure h)))
variable {K:Type} [DecidableEq K] {knd:KeyKind prog w K}
set_option maxHeartbeats 4000000 in
theorem call_set {l:Addr} {xs:Array Value} {val:Nat→K} {Q:Value→Shared→Prop} (hh:A.handled = none) (hl:s.heap.IsList l xs) (hx:∀ i v,xs[i]? = some v→knd.is (val i) v = true∧v.scannable = true) (hb:xs.size + 1 < scanBound)
  (fin:∀ (h1:Heap) (tk:Nat) (ks:List K),SetG knd h1 s.heap.objs.size ks→Upto val xs.size ks→(∀ b o,s.heap.get? b = some o→h1.get? b = some o)→Q (.ref s.heap.objs.size) { s with heap:=h1,toks:=tk }) :
  wpAny (model prog w) A (call (.type "set") [.ref l]) Q E s:=by
 refine call_class PySem.F.called_set (PySem.F.typeCall_set_1 (.ref l)) (new_set (.ref l) ?_)
 generalize hb0:(!(w.params.followText "set-order")) = b0
 have at0:(s.heap.push (setObj b0)).get? s.heap.objs.size = some (setObj b0):=Heap.get?_push_size _ rfl
 have ty0:Shared.TypeIs { s with heap:=s.heap.push (setObj b0) } (.ref s.heap.objs.size) "set" := ⟨_,at0,rfl⟩
 refine ⟨ty0,codeAny_call_builtin PySem.F.called_set.init.plain PySem.F.entry_set_init (check_set_init_1 ty0 ?_)⟩
 obtain ⟨⟨c0,d0,dt0,sl0⟩,e0,hc0,n0,hd0⟩:=hl
 simp only at hc0 hd0
 subst hc0 hd0
 have e1:(s.heap.push (setObj b0)).get? l = some ⟨.type "list",d0,.seq xs n0,sl0⟩:=Heap.get?_push_of_some _ e0
 have li:(s.heap.push (setObj b0)).IsList l xs:=⟨_,e1,rfl,n0,rfl⟩
 have u1:=PySem.F.sub_list_set
 have u2:=PySem.F.sub_list_frozenset
 have u3:(Value.type "list" == Value.type "dict") = false:=by decide
 unfold Builtin.«set.__init__» noKeywords Builtin.Frozenset.updateFrom
 generalize hit:pyIter = it
 wp_walk
 subst hit
 have lt0:l < s.heap.objs.size:=Heap.lt_size e0
 have sz:(s.heap.push (setObj b0)).objs.size = s.heap.objs.size + 1:=Heap.size_push _ _
 refine wpAny_pyIter_list li (wpAny_bind (wpAny_runValue ?_))
 refine fill_loop (knd:=knd) (val:=val) ((Walks.list (by simp [hh]) _ l (by rw [sz]; exact Nat.ne_of_lt (Nat.lt_succ_of_lt lt0)) xs).toS) (fun z => (List.mem_cons.mp z).elim (fun z => absurd z (Nat.ne_of_lt (by rw [sz]; exact Nat.lt_succ_self _))) fun z => absurd (List.mem_singleton.mp z) (Nat.ne_of_gt lt0)) hx hb 0 _ [] (Nat.zero_le _) ⟨⟨_,Heap.get?_push_size _ rfl,rfl,rfl⟩,li.push _⟩
  ⟨_,Heap.get?_push_of_some _ at0,⟨⟨rfl,rfl,rfl⟩,⟨#[],0,_,rfl,fun e he => by simp at he,.nil,by unfold scanBound; decide,tab_fresh _ _ _,hb0.symm⟩,List.nodup_nil⟩⟩ (Upto.zero val) ?_
 rintro ⟨h2,g2,d2,tk2,o2⟩ ks mv S2 u
 have x1:g2 = s.gens:=mv.gens
 have x2:d2 = s.drawn:=mv.drawn
 have x3:o2 = s.os:=mv.os
 subst x1 x2 x3
 refine wpAny_pure (wpAny_pure ⟨rfl,fin h2 tk2 ks S2 u fun b o e => mv.heap b o ?_ (Heap.get?_push_of_some _ (Heap.get?_push_of_some _ e))⟩)
 have lb:=Heap.lt_size e
 intro z
 rcases List.mem_cons.mp z with z | z
 ·exact absurd z (Nat.ne_of_lt lb)
 ·have z:=List.mem_singleton.mp z
  rw [sz] at z
  exact absurd z (Nat.ne_of_lt (Nat.lt_succ_of_lt lb))
end
theorem si_next:Slot "set_iterator" "__next__" "set_iterator.__next__" :=
 Slot.of (owner:="set_iterator") (n:="__next__") (by rw [typeLookup_type,builtinLookup_eq_fast]; kernel_rfl) (by decide +kernel) (by decide +kernel) (by decide +kernel) (.inl (by decide +kernel)) (by rw [isSubtype_type]; kernel_rfl)
theorem si_entry:entryFor table "set_iterator.__next__" = some Builtin.«set_iterator.__next__»:=entryFor_of_tree (by kernel_rfl)
theorem si_args (a:Value):argsOk "set_iterator.__next__" ⟨[a],[]⟩:=by unfold argsOk; kernel_rfl
theorem set_iter_entry:entryFor table "set.__iter__" = some Builtin.«frozenset.__iter__»:=entryFor_alias (id':="frozenset.__iter__") (by kernel_rfl) rfl (by decide +kernel) (by kernel_rfl)
theorem erase_perm {α:Type}:∀ (l:List α) (i:Nat) (h:i < l.length),(l[i] :: l.eraseIdx i).Perm l
 | x :: l,0,h => .refl _
 | x :: l,i + 1,h => by
  have ih:=erase_perm l i (by simpa using h)
  simp only [List.getElem_cons_succ,List.eraseIdx_cons_succ]
  exact (List.Perm.swap _ _ _).trans (ih.cons x)
theorem drawOrder_ok {prog:Program} {w:World} {A:Around} {E:Value→Shared→Prop} {α:Type}:∀ (n:Nat) (xs:List α) (s:Shared) (Q:List α→Shared→Prop),xs.length = n→(∀ ys d,ys.Perm xs→Q ys { s with drawn:=d })→wpAny (model prog w) A (drawOrder n xs) Q E s
 | 0,xs,s,Q,hn,h => by
  have e:xs = []:=List.length_eq_zero_iff.mp hn
  subst e
  have q:=h [] s.drawn .nil
  exact wpAny_pure q
 | n + 1,xs,s,Q,hn,h => by
  cases xs with
  | nil => simp at hn
  | cons x0 xr =>
   generalize hx:x0 :: xr = xs at hn h ⊢
   have e:drawOrder (n + 1) xs = (choose .order xs.length >>= fun i => match xs[i]? with | some x => (drawOrder n (xs.eraseIdx i) >>= fun r => pure (x :: r)) | none => unsupported "internal:drawOrder"):=by
    subst hx; rfl
   rw [e]
   refine wpAny_bind ?_
   intro Γ p hΓ
   show Sem.wp _ _ (.choose _ _ _) _ _ _ _
   rw [Sem.wp_choose]
   refine ⟨by omega, ?_⟩
   have lt:=Nat.mod_lt ((model prog w).w.draws .order (s.drawn.get .order)) (show xs.length > 0 by omega)
   generalize (model prog w).w.draws .order (s.drawn.get .order) % xs.length = i at lt ⊢
   rw [Sem.wp_pure]
   have ex:xs[i]? = some xs[i]:=List.getElem?_eq_getElem lt
   dsimp only
   rw [ex]
   refine wpAny_bind (drawOrder_ok n (xs.eraseIdx i) _ _ (by rw [List.length_eraseIdx_of_lt lt]; omega) fun ys d hp => wpAny_pure (h _ _ ((hp.cons _).trans (erase_perm xs i lt))))
inductive Fst (w:World) (a:Addr) (es:Array (Int × Value)) (ep:Nat) (t:SetTable) (h:Heap):Nat→Value→List Value→Prop where
 | byText {i:Nat} {k:Int} {tk:Tok}:w.params.followText "set-order" = true→Fst w a es ep t h i (.int k tk) ((pickOrder (w.params.setOrder a ep) es).toList.map (·.2))
 | drawn {i:Nat} {T:Addr} {c:Nat} {ps:List Nat}:ps.Perm (List.range es.size)→h.get? T = some { cls:=.type "tuple",data:=.seq (ps.map fun (p:Nat) => rawInt p).toArray c } →
   Fst w a es ep t h i (.ref T) (ps.map fun p => (es.getD p (0,.none)).2)
 | plain {i:Nat} {tk:Tok}:w.params.followText "set-order" = false→(!t.plain && es.size > 1) = false→t.led = true→Fst w a es ep t h i (.int (if i = 0 then 0 else ((t.place.getD (i - 1) 0 + 1:Nat):Int)) tk) (es.toList.map (·.2))
abbrev itObj (first:Value) (i:Nat) (a:Addr) (n ep:Nat):Obj:={ cls:=.type "set_iterator",data:=.fields #[first,rawInt i,.ref a,rawInt n,rawInt ep] }
section
variable {prog:Program} {w:World} {A:Around} {E:Value→Shared→Prop} {s:Shared} {a:Addr} {o:Obj} {es:Array (Int × Value)} {ep:Nat} {t:SetTable}
theorem iter_set {Q:Value→Shared→Prop} (ho:s.heap.get? a = some o) (hex:o.ExactSet) (hd:o.data = .set es ep t) (ti:TabI t es.size) (hl:t.led = !(w.params.followText "set-order")) (hb:es.size < scanBound)
  (fin:∀ I first h1 d vs,(∀ b ob,s.heap.get? b = some ob→h1.get? b = some ob)→s.heap.objs.size ≤ I→h1.get? I = some (itObj first 0 a es.size ep)→(∀ T,first = .ref T→T ≠ I∧s.heap.objs.size ≤ T)→Fst w a es ep t h1 0 first vs→Q (.ref I) { s with heap:=h1,drawn:=d }) :
  wpAny (model prog w) A (pyIter (.ref a)) Q E s:=by
 have hT:s.TypeIs (.ref a) "set" := ⟨o,ho,hex.1⟩
 refine wpAny_pyIter_slot hT PySem.F.slot_set_iter (wpAny_call_entry PySem.F.slot_set_iter hT set_iter_entry ?_ (PySem.F.args_set_iter_1 _))
 unfold Builtin.«frozenset.__iter__» Builtin.Frozenset.slot0 slotArgs
 simp only [List.isEmpty_nil,Bool.not_true,Bool.false_eq_true, ↓reduceIte,bind_assoc,List.length_nil,bne_self_eq_false]
 unfold Builtin.Frozenset.addrOf Builtin.Frozenset.sizeOf
 refine wpAny_bind (wpAny_pure ?_)
 dsimp only
 refine wpAny_bind (wpAny_pure ?_)
 refine wpAny_bind (wpAny_bind (wpAny_setEntries_of ho hd ti.fits (wpAny_pure ?_)))
 unfold setDrawn setsByText
 refine wpAny_bind (wpAny_bind (wpAny_setState_of ho hd ti.fits ?_))
 dsimp only
 refine wpAny_bind (wpAny_bind (wpAny_askSetting (wpAny_pure (wpAny_pure ?_))))
 dsimp only
 have eEp:∀ (s1:Shared) {Q1:Nat→Shared→Prop},s1.heap.get? a = some o→Q1 ep s1→wpAny (model prog w) A.in1 (setEpoch a) Q1 E s1:=fun s1 Q1 e q => wpAny_setEpoch_of e hd ti.fits q
 split
 ·rename_i hdr
  refine wpAny_bind (drawOrder_ok _ _ _ _ (List.length_range) fun ps d hp => ?_)
  refine wpAny_bind (wpAny_newTuple ?_ (by rw [List.length_map,hp.length_eq,List.length_range]; exact fits_of_scanBound hb))
  refine wpAny_bind (eEp _ (Heap.get?_push_of_some _ ho) ?_)
  refine wpAny_bind (wpAny_newObj_type (wpAny_pure ⟨_,rfl,"set_iterator",_,⟨_,Heap.get?_push_size _ rfl,rfl⟩,si_next.lookup, ?_⟩))
  refine fin _ (.ref s.heap.objs.size) _ d _ (fun b ob e => Heap.get?_push_of_some _ (Heap.get?_push_of_some _ e)) ?_ (Heap.get?_push_size _ rfl) ?_ (.drawn hp (Heap.get?_push_of_some _ (Heap.get?_push_size _ rfl)))
  ·rw [Heap.size_push]; exact Nat.le_succ _
  ·rintro T e
   cases e
   exact ⟨by rw [Heap.size_push]; exact Nat.ne_of_lt (Nat.lt_succ_self _),Nat.le_refl _⟩
 ·rename_i hdr
  refine wpAny_bind (wpAny_pure (wpAny_bind (eEp _ ho ?_)))
  refine wpAny_bind (wpAny_newObj_type (wpAny_pure ⟨_,rfl,"set_iterator",_,⟨_,Heap.get?_push_size _ rfl,rfl⟩,si_next.lookup, ?_⟩))
  have old:∀ b ob,s.heap.get? b = some ob→(s.heap.push (itObj (rawInt 0) 0 a es.size ep)).get? b = some ob:=fun b ob e => Heap.get?_push_of_some _ e
  cases hbt:w.params.followText "set-order" with
  | true => exact fin s.heap.objs.size (rawInt 0) _ s.drawn _ old (Nat.le_refl _) (Heap.get?_push_size _ rfl) (fun T e => by cases e) (.byText hbt)
  | false =>
   have h1:(!t.plain && decide (es.size > 1)) = false:=by
    have h2:¬ (!false && (!t.plain && decide (es.size > 1))) = true:=by rw [← hbt]; exact hdr
    simpa using h2
   exact fin s.heap.objs.size (rawInt 0) _ s.drawn _ old (Nat.le_refl _) (Heap.get?_push_size _ rfl) (fun T e => by cases e) (.plain hbt h1 (by rw [hl,hbt]; rfl))
end
theorem pick_go {α:Type} (nx:Nat→Nat):∀ (fuel k:Nat) (left:List α) (out:Array α),left.length ≤ fuel→(pickOrder.go nx fuel k left out).toList.Perm (out.toList ++ left)
 | 0,k,left,out,h => by
  have e:left = []:=List.length_eq_zero_iff.mp (by omega)
  subst e
  simp [pickOrder.go]
 | fuel + 1,k,left,out,h => by
  simp only [pickOrder.go]
  cases left with
  | nil => simp
  | cons x0 xr =>
   generalize hx:x0 :: xr = l at h ⊢
   have lt:nx k % l.length < l.length:=Nat.mod_lt _ (by rw [← hx]; simp)
   rw [List.getElem?_eq_getElem lt]
   dsimp only
   refine (pick_go nx fuel (k + 1) _ _ (by rw [List.length_eraseIdx_of_lt lt]; omega)).trans ?_
   rw [Array.toList_push,List.append_assoc]
   exact List.Perm.append_left _ (erase_perm l _ lt)
theorem pick_perm {α:Type} (nx:Nat→Nat) (xs:Array α):(pickOrder nx xs).toList.Perm xs.toList:=by
 have q:=pick_go nx xs.size 0 xs.toList #[] (by simp)
 exact q
theorem range_items (es:Array (Int × Value)):(List.range es.size).map (fun p => (es.getD p (0,.none)).2) = es.toList.map (·.2):=by
 apply List.ext_getElem
 ·simp
 ·intro i h1 h2
  have h3:i < es.size:=by simpa using h1
  simp [h3]
section
variable {w:World} {a:Addr} {es:Array (Int × Value)} {ep:Nat} {t:SetTable} {h:Heap} {i:Nat} {first:Value} {vs:List Value}
theorem Fst.perm (F:Fst w a es ep t h i first vs):vs.Perm (es.toList.map (·.2)):=by
 cases F with
 | byText _ => exact (pick_perm _ _).map _
 | drawn hp _ => rw [← range_items]; exact hp.map _
 | plain _ _ _ => exact .refl _
end
section
variable {prog:Program} {w:World} {A:Around} {E:Value→Shared→Prop} {s:Shared} {a I:Addr} {o:Obj} {es:Array (Int × Value)} {ep:Nat} {t:SetTable} {i:Nat} {first:Value} {vs:List Value}
theorem below_at {xs:Array Nat} (hr:Ris xs) {i:Nat} (hi:i ≤ xs.size):SetTable.below xs (if i = 0 then (0:Int) else ((xs.getD (i - 1) 0 + 1:Nat):Int)).toNat = i:=by
 by_cases h:i = 0
 ·subst h
  rw [if_pos rfl]
  exact below_zero hr
 ·rw [if_neg h,Int.toNat_natCast,getD_in (by omega),below_next hr (by omega)]
  omega
theorem it_put {h:Heap} {n:Nat} {x0 x1 x2 x3 x4:Value} (k:Nat) (v:Value) (hI:h.get? I = some { cls:=.type "set_iterator",data:=.fields #[x0,x1,x2,x3,x4] }) :
  (h.update I (Obj.mapFields (·.setIfInBounds k v))).get? I = some { cls:=.type "set_iterator",data:=.fields (#[x0,x1,x2,x3,x4].setIfInBounds k v) }:=by
 rw [Heap.get?_update_self _ hI rfl]
 rfl
theorem it_else {h:Heap} {f:Obj→Obj} {b:Addr} {ob:Obj} (hb:b ≠ I) (e:h.get? b = some ob):(h.update I f).get? b = some ob:=(Heap.get?_update_other _ _ (Ne.symm hb)).trans e
theorem Fst.heap {h h1:Heap} (F:Fst w a es ep t h i first vs) (k:∀ T,first = .ref T→∀ ob,h.get? T = some ob→h1.get? T = some ob):Fst w a es ep t h1 i first vs:=by
 cases F with
 | byText hb => exact .byText hb
 | drawn hp e => exact .drawn hp (k _ rfl _ e)
 | plain hb hp hl => exact .plain hb hp hl
theorem next_item {v:Value} {Q:Option Value→Shared→Prop} (ho:s.heap.get? a = some o) (hex:o.ExactSet) (hd:o.data = .set es ep t) (ti:TabI t es.size) (hI:s.heap.get? I = some (itObj first i a es.size ep)) (hne:a ≠ I) (hT:∀ T,first = .ref T→T ≠ I)
  (F:Fst w a es ep t s.heap i first vs) (hv:vs[i]? = some v)
  (fin:∀ h1 first',(∀ b ob,b ≠ I→s.heap.get? b = some ob→h1.get? b = some ob)→h1.get? I = some (itObj first' (i + 1) a es.size ep)→(∀ T,first' = .ref T→first = .ref T)→Fst w a es ep t h1 (i + 1) first' vs→Q (some v) { s with heap:=h1 }) :
  wpAny (model prog w) A (pyNext (.ref I)) Q E s:=by
 have hTy:s.TypeIs (.ref I) "set_iterator" := ⟨_,hI,rfl⟩
 unfold pyNext
 refine wpAny_bind (wpAny_attempt (wpAny_callSpecial?_slot (name:=Str.ofString "__next__") hTy si_next (wpAny_call_entry si_next hTy si_entry ?_ (si_args _))))
 unfold Builtin.«set_iterator.__next__» slotArgs
 simp only [List.isEmpty_nil,Bool.not_true,Bool.false_eq_true, ↓reduceIte,bind_assoc,List.length_nil,bne_self_eq_false]
 refine wpAny_bind (wpAny_pure ?_)
 dsimp only
 refine wpAny_bind (wpAny_fieldsOf hI rfl ?_)
 dsimp only [rawInt]
 refine wpAny_bind (wpAny_setEntries_of ho hd ti.fits ?_)
 rw [if_neg (by simp)]
 have two:∀ (nx:Nat) {Q1:Fin→Shared→Prop},(∀ h1,(∀ b ob,b ≠ I→s.heap.get? b = some ob→h1.get? b = some ob)→h1.get? I = some (itObj (.int nx 0) (i + 1) a es.size ep)→Q1 (.done (.ret v)) { s with heap:=h1 }) →
   wpAny (model prog w) A.in1 (do setField (.ref I) 0 (.int nx 0); setField (.ref I) 1 (.int (i + 1) 0); ret v) Q1 (fun e s' => wpAny (model prog w) A (do let b ← isInstance e (.type "StopIteration"); if b = true then pure none else throw e) Q E s') s:=by
  intro nx Q1 q
  refine wpAny_bind (wpAny_setField hI rfl (by simp) ?_)
  have g1:=it_put (n:=es.size) 0 (.int nx 0) hI
  refine wpAny_bind (wpAny_setField g1 rfl (by simp) ?_)
  refine wpAny_pure (q _ (fun b ob hb e => it_else hb (it_else hb e)) ?_)
  have g2:=it_put (n:=es.size) 1 (.int ((i:Int) + 1) 0) g1
  exact g2
 cases F with
 | byText hb =>
  dsimp only
  unfold setNext setsByText
  refine wpAny_bind (wpAny_bind (wpAny_setState_of ho hd ti.fits ?_))
  dsimp only
  refine wpAny_bind (wpAny_bind (wpAny_askSetting (wpAny_pure ?_)))
  dsimp only
  rw [show (model prog w).w.params.followText "set-order" = true from hb]
  simp only [↓reduceIte,Int.toNat_natCast,bne_self_eq_false,Bool.false_eq_true]
  unfold setWalk setsByText
  refine wpAny_bind (wpAny_bind (wpAny_setState_of ho hd ti.fits ?_))
  dsimp only
  refine wpAny_bind (wpAny_bind (wpAny_askSetting (wpAny_pure ?_)))
  dsimp only
  rw [show (model prog w).w.params.followText "set-order" = true from hb]
  simp only [↓reduceIte]
  refine wpAny_bind (wpAny_askSetting (wpAny_pure ?_))
  dsimp only
  rw [List.getElem?_map,Array.getElem?_toList] at hv
  have hv':(pickOrder ((model prog w).w.params.setOrder a ep) es)[i]?.map (·.2) = some v:=hv
  cases hq:(pickOrder ((model prog w).w.params.setOrder a ep) es)[i]? with
  | none => rw [hq] at hv'; cases hv'
  | some e =>
   rw [hq] at hv'
   cases hv'
   refine wpAny_pure ?_
   dsimp only [Option.map_some]
   exact two _ fun h1 k1 g1 => ⟨_,rfl,wpAny_pure (fin h1 _ k1 g1 (fun T z => by cases z) (.byText hb))⟩
 | @drawn T c ps hp hT2 =>
  dsimp only
  refine wpAny_bind (wpAny_seqItems hT2 rfl ?_)
  dsimp only
  rw [List.getElem?_map] at hv
  cases hq:ps[i]? with
  | none => rw [hq] at hv; cases hv
  | some p =>
   rw [hq] at hv
   cases hv
   have hlt:p < es.size:=List.mem_range.mp (hp.mem_iff.mp (List.mem_of_getElem? hq))
   have e1:(List.map (fun (p:Nat) => rawInt p) ps).toArray[((i:Int)).toNat]? = some (.int (p:Int) 0):=by
    simp only [Int.toNat_natCast,List.getElem?_toArray,List.getElem?_map,hq]
    rfl
   rw [e1]
   dsimp only
   unfold setNextDrawn
   refine wpAny_bind (wpAny_bind (wpAny_setState_of ho hd ti.fits ?_))
   dsimp only
   simp only [Int.toNat_natCast,bne_self_eq_false,Bool.false_eq_true, ↓reduceIte,Array.getElem?_eq_getElem hlt]
   refine wpAny_pure ?_
   refine wpAny_bind (wpAny_setField hI rfl (by simp) ?_)
   have g1:=it_put (n:=es.size) 1 (.int ((i:Int) + 1) 0) hI
   have e2:(es.getD p (0,Value.none)).2 = es[p].2:=by simp [hlt]
   refine wpAny_pure ⟨_,rfl,wpAny_pure ?_⟩
   have q:=fin _ _ (fun b ob hb e => it_else hb e) g1 (fun T z => z) (.drawn hp (it_else (hT T rfl) hT2))
   dsimp only at q
   rw [e2] at q
   exact q
 | plain hb hpl hled =>
  dsimp only
  unfold setNext setsByText
  refine wpAny_bind (wpAny_bind (wpAny_setState_of ho hd ti.fits ?_))
  dsimp only
  refine wpAny_bind (wpAny_bind (wpAny_askSetting (wpAny_pure ?_)))
  dsimp only
  rw [show (model prog w).w.params.followText "set-order" = false from hb]
  simp only [↓reduceIte,Int.toNat_natCast,bne_self_eq_false,Bool.false_eq_true]
  rw [if_neg (fun z => by have z':(!t.plain && decide (es.size > 1)) = true:=z; rw [hpl] at z'; cases z')]
  have led0:∀ {Q1:Unit→Shared→Prop} {E1:Value→Shared→Prop},Q1 () s→wpAny (model prog w) A.in1 (if (!t.led && !es.isEmpty) = true then unsupported "set:maker-not-led" else pure ()) Q1 E1 s:=fun q => by
   rw [hled,if_neg (by simp)]
   exact wpAny_pure q
  refine wpAny_bind (led0 ?_)
  rw [List.getElem?_map,Array.getElem?_toList] at hv
  cases hq:es[i]? with
  | none => rw [hq] at hv; cases hv
  | some e =>
   rw [hq] at hv
   cases hv
   have hlt:i < es.size:=(Array.getElem?_eq_some_iff.mp hq).1
   have hlp:i < t.place.size:=by rw [ti.size]; exact hlt
   rw [below_at ti.ris (Nat.le_of_lt hlp),hq,Array.getElem?_eq_getElem hlp]
   refine wpAny_pure ?_
   dsimp only
   refine two _ fun h1 k1 g1 => ⟨_,rfl,wpAny_pure (fin h1 _ k1 g1 (fun T z => by cases z) ?_)⟩
   have q:=Fst.plain (w:=w) (a:=a) (es:=es) (ep:=ep) (t:=t) (h:=h1) (i:=i + 1) (tk:=0) hb hpl hled
   rw [if_neg (Nat.succ_ne_zero i),Nat.add_sub_cancel,getD_in hlp] at q
   exact q
theorem next_end {Q:Option Value→Shared→Prop} (hh:A.handled = none) (ho:s.heap.get? a = some o) (hex:o.ExactSet) (hd:o.data = .set es ep t) (ti:TabI t es.size) (hI:s.heap.get? I = some (itObj first i a es.size ep)) (hne:a ≠ I)
  (F:Fst w a es ep t s.heap i first vs) (hi:i = vs.length)
  (fin:∀ h1,(∀ b ob,b ≠ I→s.heap.get? b = some ob→h1.get? b = some ob)→Q none { s with heap:=h1 }) :
  wpAny (model prog w) A (pyNext (.ref I)) Q E s:=by
 have hTy:s.TypeIs (.ref I) "set_iterator" := ⟨_,hI,rfl⟩
 have hlen:i = es.size:=by rw [hi,F.perm.length_eq,List.length_map,Array.length_toList]
 unfold pyNext
 refine wpAny_bind (wpAny_attempt (wpAny_callSpecial?_slot (name:=Str.ofString "__next__") hTy si_next (wpAny_call_entry si_next hTy si_entry ?_ (si_args _))))
 unfold Builtin.«set_iterator.__next__» slotArgs
 simp only [List.isEmpty_nil,Bool.not_true,Bool.false_eq_true, ↓reduceIte,bind_assoc,List.length_nil,bne_self_eq_false]
 refine wpAny_bind (wpAny_pure ?_)
 dsimp only
 refine wpAny_bind (wpAny_fieldsOf hI rfl ?_)
 dsimp only [rawInt]
 refine wpAny_bind (wpAny_setEntries_of ho hd ti.fits ?_)
 rw [if_neg (by simp)]
 have stop:∀ (h0:Heap) {Q1:Fin→Shared→Prop},(∀ b ob,b ≠ I→s.heap.get? b = some ob→h0.get? b = some ob)→wpAny (model prog w) A.in1 (do let e ← newExc (.type "StopIteration") []; raiseNew e) Q1
   (fun e s' => wpAny (model prog w) A (do let b ← isInstance e (.type "StopIteration"); if b = true then pure none else throw e) Q E s') { s with heap:=h0 }:=by
  intro h0 Q1 k0
  refine wpAny_bind ?_
  simp only [newExc,newTuple]
  refine wpAny_bind (wpAny_newObj_type ?_ (by size_fits))
  refine wpAny_bind (m:=firstArgMember _ _) (wpAny_of_eq (a:=Value.none) (by first | rfl | (simp only [firstArgMember]; rfl)) ?_)
  refine wpAny_newObj_type ?_ (by size_fits)
  simp only [raiseNew]
  refine wpAny_bind (wpAny_handled ?_)
  rw [show A.in1.handled = none from hh]
  refine wpAny_bind (wpAny_pure (wpAny_throw ?_))
  refine wpAny_bind (wpAny_isInstance (T:="StopIteration") (b:=true) ⟨_,Heap.get?_push_size _ rfl,rfl⟩ isSubtype_stop ?_)
  exact wpAny_pure (fin _ fun b ob hb e => Heap.get?_push_of_some _ (Heap.get?_push_of_some _ (k0 b ob hb e)))
 have one:∀ {Q1:Fin→Shared→Prop},wpAny (model prog w) A.in1 (do setField (.ref I) 2 .none; let e ← newExc (.type "StopIteration") []; raiseNew e) Q1
   (fun e s' => wpAny (model prog w) A (do let b ← isInstance e (.type "StopIteration"); if b = true then pure none else throw e) Q E s') s:=by
  intro Q1
  exact wpAny_bind (wpAny_setField hI rfl (by simp) (stop _ fun b ob hb e => it_else hb e))
 cases F with
 | byText hb =>
  dsimp only
  unfold setNext setsByText
  refine wpAny_bind (wpAny_bind (wpAny_setState_of ho hd ti.fits ?_))
  dsimp only
  refine wpAny_bind (wpAny_bind (wpAny_askSetting (wpAny_pure ?_)))
  dsimp only
  rw [show (model prog w).w.params.followText "set-order" = true from hb]
  simp only [↓reduceIte,Int.toNat_natCast,bne_self_eq_false,Bool.false_eq_true]
  unfold setWalk setsByText
  refine wpAny_bind (wpAny_bind (wpAny_setState_of ho hd ti.fits ?_))
  dsimp only
  refine wpAny_bind (wpAny_bind (wpAny_askSetting (wpAny_pure ?_)))
  dsimp only
  rw [show (model prog w).w.params.followText "set-order" = true from hb]
  simp only [↓reduceIte]
  refine wpAny_bind (wpAny_askSetting (wpAny_pure ?_))
  dsimp only
  have no:(pickOrder ((model prog w).w.params.setOrder a ep) es)[i]? = none:=by
   rw [Array.getElem?_eq_none_iff]
   rw [hi,List.length_map,Array.length_toList]
   exact Nat.le_refl _
  rw [no]
  refine wpAny_pure ?_
  exact one
 | @drawn T c ps hp hT2 =>
  dsimp only
  refine wpAny_bind (wpAny_seqItems hT2 rfl ?_)
  dsimp only
  have e1:(List.map (fun (p:Nat) => rawInt p) ps).toArray[((i:Int)).toNat]? = none:=by
   rw [hi]
   simp
  rw [e1]
  dsimp only
  refine wpAny_bind (wpAny_setField hI rfl (by simp) ?_)
  have g1:=it_put (n:=es.size) 0 (.int 0 0) hI
  refine wpAny_bind (wpAny_setField g1 rfl (by simp) ?_)
  exact stop _ fun b ob hb e => it_else hb (it_else hb e)
 | plain hb hpl hled =>
  dsimp only
  unfold setNext setsByText
  refine wpAny_bind (wpAny_bind (wpAny_setState_of ho hd ti.fits ?_))
  dsimp only
  refine wpAny_bind (wpAny_bind (wpAny_askSetting (wpAny_pure ?_)))
  dsimp only
  rw [show (model prog w).w.params.followText "set-order" = false from hb]
  simp only [↓reduceIte,Int.toNat_natCast,bne_self_eq_false,Bool.false_eq_true]
  rw [if_neg (fun z => by have z':(!t.plain && decide (es.size > 1)) = true:=z; rw [hpl] at z'; cases z')]
  have led0:∀ {Q1:Unit→Shared→Prop} {E1:Value→Shared→Prop},Q1 () s→wpAny (model prog w) A.in1 (if (!t.led && !es.isEmpty) = true then unsupported "set:maker-not-led" else pure ()) Q1 E1 s:=fun q => by
   rw [hled,if_neg (by simp)]
   exact wpAny_pure q
  refine wpAny_bind (led0 ?_)
  rw [below_at ti.ris (by rw [ti.size,hlen]; exact Nat.le_refl _),Array.getElem?_eq_none (by rw [hlen]; exact Nat.le_refl _)]
  refine wpAny_pure ?_
  exact one
end
theorem si_iter:Slot "set_iterator" "__iter__" "set_iterator.__iter__" :=
 Slot.of (owner:="set_iterator") (n:="__iter__") (by rw [typeLookup_type,builtinLookup_eq_fast]; kernel_rfl) (by decide +kernel) (by decide +kernel) (by decide +kernel) (.inl (by decide +kernel)) (by rw [isSubtype_type]; kernel_rfl)
theorem si_iter_entry:entryFor table "set_iterator.__iter__" = some Builtin.«dict_keyiterator.__iter__»:=entryFor_alias (id':="dict_keyiterator.__iter__") (by kernel_rfl) rfl (by decide +kernel) (by kernel_rfl)
theorem si_iter_args (a:Value):argsOk "set_iterator.__iter__" ⟨[a],[]⟩:=by unfold argsOk; kernel_rfl
section
variable {prog:Program} {w:World} {A:Around} {E:Value→Shared→Prop} {s:Shared} {a I:Addr} {o:Obj} {es:Array (Int × Value)} {ep:Nat} {t:SetTable} {vs:List Value}
def StI (w:World) (a I:Addr) (o:Obj) (es:Array (Int × Value)) (ep:Nat) (t:SetTable) (Ts:List Addr) (vs:List Value) (i:Nat) (h:Heap):Prop :=
 ∃ first,h.get? I = some (itObj first i a es.size ep)∧h.get? a = some o∧(∀ T,first = .ref T→T ∈ Ts)∧Fst w a es ep t h i first vs
theorem walks_set (hh:A.handled = none) (hex:o.ExactSet) (hd:o.data = .set es ep t) (ti:TabI t es.size) (hne:a ≠ I) (Ts:List Addr) (hTs:I ∉ Ts) :
  Walks prog w A I (I :: a :: Ts) [I] vs.length (fun i v => vs[i]? = some v) (StI w a I o es ep t Ts vs) where
 sub:=fun b hb => by rw [List.mem_singleton.mp hb]; exact List.mem_cons_self
 frame:=fun i h h1 st k => by
  obtain ⟨first,g1,g2,g3,F⟩:=st
  exact ⟨first,k I List.mem_cons_self _ g1,k a (List.mem_cons_of_mem _ List.mem_cons_self) _ g2,g3,F.heap fun T e ob q => k T (List.mem_cons_of_mem _ (List.mem_cons_of_mem _ (g3 T e))) ob q⟩
 item:=fun i s Q E hi st fin => by
  obtain ⟨first,g1,g2,g3,F⟩:=st
  refine next_item g2 hex hd ti g1 hne (fun T e z => hTs (z ▸ g3 T e)) F (List.getElem?_eq_getElem hi) fun h1 first' k1 q1 q2 F1 => ?_
  exact fin _ h1 s.toks (List.getElem?_eq_getElem hi) ⟨first',q1,k1 a o hne g2,fun T e => g3 T (q2 T e),F1⟩ fun b ob hb e => k1 b ob (fun z => hb (by rw [z]; exact List.mem_singleton_self _)) e
 done:=fun s Q E st fin => by
  obtain ⟨first,g1,g2,g3,F⟩:=st
  exact next_end hh g2 hex hd ti g1 hne F rfl fun h1 k1 => fin h1 s.toks fun b ob hb e => k1 b ob (fun z => hb (by rw [z]; exact List.mem_singleton_self _)) e
 self:=fun i s Q E st q => by
  obtain ⟨first,g1,g2,g3,F⟩:=st
  have hTy:s.TypeIs (.ref I) "set_iterator" := ⟨_,g1,rfl⟩
  refine wpAny_pyIter_slot hTy si_iter (wpAny_call_entry si_iter hTy si_iter_entry ?_ (si_iter_args _))
  exact wpAny_pure ⟨_,rfl,"set_iterator",_,hTy,si_next.lookup,q⟩
theorem hint_set (hT:s.TypeIs (.ref a) "set") {Q:Bool→Shared→Prop} (h:Q false s):wpAny (model prog w) A (Builtin.List.listLengthHint (.ref a)) Q E s:=by
 unfold Builtin.List.listLengthHint
 refine wpAny_bind (wpAny_specialOf hT PySem.F.slot_set_len.lookup ?_)
 generalize hid:("set.__len__" : String) = id0
 wp_delta
 rw [show splitId id0 = some ("set","__len__") from by subst hid; decide +kernel]
 subst hid
 refine wpAny_bind (wpAny_isInstance (b:=true) hT sub_set_self (wpAny_ite_split (fun z => absurd z (by decide)) fun _ => wpAny_ite_split (fun _ => ?_) fun z => absurd (by decide +kernel) z))
 exact wpAny_bind (wpAny_typeOf hT (wpAny_pure h))
theorem collect_set {Q:List Value→Shared→Prop} (hh:A.handled = none) (ho:s.heap.get? a = some o) (hex:o.ExactSet) (hd:o.data = .set es ep t) (ti:TabI t es.size) (hl:t.led = !(w.params.followText "set-order")) (hb:es.size < scanBound)
  (fin:∀ (h1:Heap) (tk:Nat) (d:Drawn) (vs:List Value),(∀ b ob,s.heap.get? b = some ob→h1.get? b = some ob)→s.heap.objs.size < h1.objs.size→vs.Perm (es.toList.map (·.2))→Q vs { s with heap:=h1,toks:=tk,drawn:=d }) :
  wpAny (model prog w) A (collect (.ref a)) Q E s:=by
 have alt:=Heap.lt_size ho
 unfold collect
 refine wpAny_bind (wpAny_runValue (codeAny_builtin entry_proto_collect' ?_))
 rw [Around.under_plainId PySem.F.plain_proto_collect]
 refine wpAny_bind (m:=newList []) (wpAny_newObj_type (wpAny_pure ⟨plainId_quiet PySem.F.plain_list_iadd _,codeAny_builtin entry_list_iadd' ?_⟩))
 rw [Around.under_plainId PySem.F.plain_list_iadd]
 generalize hs1:({ s with heap:=s.heap.push { cls:=.type "list",dict:=none,data:=.seq ([]:List Value).toArray } }:Shared) = s1
 change wpAny (model prog w) A.in1 (Builtin.List.listExtendWith (.ref s.heap.objs.size) (.ref a) (.ref s.heap.objs.size)) _ _ _
 have at1:s1.heap.get? s.heap.objs.size = some { cls:=.type "list",dict:=none,data:=.seq #[] 0,slots:=#[] }:=by rw [← hs1]; exact Heap.get?_push_size _ rfl
 have k1:∀ b ob,s.heap.get? b = some ob→s1.heap.get? b = some ob:=fun b ob e => by rw [← hs1]; exact Heap.get?_push_of_some _ e
 have ho1:=k1 a o ho
 have hT1:s1.TypeIs (.ref a) "set" := ⟨o,ho1,hex.1⟩
 unfold Builtin.List.listExtendWith
 refine wpAny_bind (wpAny_typeOf hT1 ?_)
 have n1:Builtin.List.listSameRef (.ref s.heap.objs.size) (.ref a) = false:=by
  simp only [Builtin.List.listSameRef,beq_eq_false_iff_ne]
  exact Nat.ne_of_gt alt
 have n2:(Value.type "set" == Value.type "list") = false:=by decide
 have n3:(Value.type "set" == Value.type "tuple") = false:=by decide
 simp only [n1,n2,n3,Bool.or_false,Bool.false_eq_true,if_false]
 refine wpAny_bind (iter_set ho1 hex hd ti hl hb fun I first h2 d vs k2 hI at2 hf F => ?_)
 generalize hS:s.heap.objs.size = S at *
 have S1:S < s1.heap.objs.size:=Heap.lt_size at1
 obtain ⟨Ts,tin,tout,tall⟩:∃ Ts:List Addr,(∀ T,first = .ref T→T ∈ Ts)∧I ∉ Ts∧∀ T ∈ Ts,s1.heap.objs.size ≤ T:=by
  cases first with
  | ref T => exact ⟨[T],(fun T' e => by cases e; exact List.mem_singleton_self _),fun z => (hf T rfl).1 (List.mem_singleton.mp z).symm,fun T' z => by rw [List.mem_singleton.mp z]; exact (hf T rfl).2⟩
  | _ => exact ⟨[],(fun T e => nomatch e),List.not_mem_nil,fun T z => absurd z List.not_mem_nil⟩
 have aI:a ≠ I:=Nat.ne_of_lt (Nat.lt_of_lt_of_le (Nat.lt_trans alt S1) hI)
 have SI:S ≠ I:=Nat.ne_of_lt (Nat.lt_of_lt_of_le S1 hI)
 have Sfp:S ∉ I :: a :: Ts:=fun z => by
  rcases List.mem_cons.mp z with z | z
  ·exact SI z
  ·rcases List.mem_cons.mp z with z | z
   ·exact Nat.ne_of_gt alt z
   ·exact absurd (Nat.lt_of_lt_of_le S1 (tall S z)) (Nat.lt_irrefl _)
 have hn:vs.length ≤ sizeLine:=by
  rw [F.perm.length_eq,List.length_map,Array.length_toList]
  exact fits_of_scanBound hb
 have W:=walks_set (prog:=prog) (w:=w) (A:=A.in1) (vs:=vs) hh hex hd ti aI Ts tout
 have st2:StI w a I o es ep t Ts vs 0 h2:=⟨first,at2,k2 a o ho1,tin,F⟩
 have key:∀ (h3:Heap) (c:Nat),StI w a I o es ep t Ts vs 0 h3→h3.get? S = some { cls:=.type "list",dict:=none,data:=.seq #[] c,slots:=#[] }→(∀ b ob,s.heap.get? b = some ob→h3.get? b = some ob) →
   codeAny (model prog w) A (.builtin "list.extend.loop" ⟨[.ref S,.ref I,.ref S],[]⟩) (fun r s' => match r with
    | .ok (.ret v) => wpAny (model prog w) A (match v with
      | .ref a => do
       let x ← load a
       match x.data with
        | .seq xs _ => pure xs.toList
        | _ => unsupported "internal:collect"
      | _ => unsupported "internal:collect") Q E s'
    | .ok _ => False
    | .error e => E e s') { heap:=h3,gens:=s1.gens,drawn:=d,toks:=s1.toks,os:=s1.os }:=by
  intro h3 c st3 g3 k3
  refine codeAny_extend_loopS W.toS hn S Sfp (.ref S) vs.length 0 _ #[] c rfl (Nat.zero_le _) st3 g3 (ItemsOf.nil _) fun s4 acc c4 mv g4 items => ?_
  dsimp only
  refine wpAny_bind (wpAny_load g4 ?_)
  dsimp only
  obtain ⟨h4,gg,d4,tk4,o4⟩:=s4
  have x1:gg = s1.gens:=mv.gens
  have x2:d4 = d:=mv.drawn
  have x3:o4 = s1.os:=mv.os
  subst x1 x2 x3
  have ev:acc.toList = vs:=by
   apply List.ext_getElem?
   intro i
   rw [Array.getElem?_toList]
   by_cases hi:i < vs.length
   ·have hi':i < acc.size:=by rw [items.1]; exact hi
    rw [Array.getElem?_eq_getElem hi']
    exact (items.2 i _ (Array.getElem?_eq_getElem hi')).symm
   ·rw [Array.getElem?_eq_none (by rw [items.1]; omega),List.getElem?_eq_none (by omega)]
  rw [ev]
  have q:=fin h4 tk4 d4 vs (fun b ob e => mv.heap b ob (fun z => ?_) (k3 b ob e)) (Heap.lt_size g4) F.perm
  ·rw [← hs1]
   exact wpAny_pure q
  ·have lb:=Heap.lt_size e
   rcases List.mem_cons.mp z with z | z
   ·rw [hS,z] at lb
    exact Nat.lt_irrefl _ lb
   ·rw [List.mem_singleton.mp z,hS] at lb
    exact Nat.lt_irrefl _ (Nat.lt_of_lt_of_le (Nat.lt_trans lb S1) hI)
 have kall:∀ b ob,s.heap.get? b = some ob→h2.get? b = some ob:=fun b ob e => k2 b ob (k1 b ob e)
 have nbS:∀ {b:Addr} {ob:Obj},s.heap.get? b = some ob→b ≠ S:=fun e => Nat.ne_of_lt (hS ▸ Heap.lt_size e)
 refine wpAny_bind (wpAny_holding (hint_set ⟨o,k2 a o ho1,hex.1⟩ ?_))
 refine wpAny_ite_split (fun _ => ?_) (fun _ => wpAny_pure ⟨plainId_quiet PySem.F.plain_extend_loop _,key h2 0 st2 (k2 S _ at1) kall⟩)
 refine wpAny_bind (wpAny_rule (wpAny_bind (m:=Builtin.List.listTouch (.ref S)) ?_))
 change wpAny (model prog w) _ (updateSeq S (·.push .none) >>= fun _ => updateSeq S (·.pop)) _ _ _
 refine wpAny_bind (wpAny_updateSeq (k2 S _ at1) rfl ?_)
 have u1:=Heap.get?_update_self (Obj.mapSeq (·.push Value.none)) (k2 S _ at1) rfl
 refine wpAny_updateSeq (hz:=by seq_fits) u1 rfl ?_
 have u2:=Heap.get?_update_self (Obj.mapSeq (·.pop)) u1 rfl
 have other:∀ b ob,b ≠ S→h2.get? b = some ob→((h2.update S (Obj.mapSeq (·.push Value.none))).update S (Obj.mapSeq (·.pop))).get? b = some ob:=fun b ob z e => (Heap.get?_update_other _ _ (Ne.symm z)).trans ((Heap.get?_update_other _ _ (Ne.symm z)).trans e)
 refine wpAny_pure ⟨plainId_quiet PySem.F.plain_extend_loop _,key _ _ (W.frame 0 _ _ st2 fun b z ob e => other b ob (fun y => Sfp (y ▸ z)) e) u2 fun b ob e => other b ob (nbS e) (kall b ob e)⟩
end
section
variable {prog:Program} {w:World} {K:Type} [DecidableEq K] {knd:PySem.KeyKind prog w K} {A:Around} {E:Value→Shared→Prop} {s:Shared} {a:Addr}
theorem sortedHeap_keep {h:Heap} {l b:Addr} {vs:List Value} {out:Array Value} {ob:Obj} (hb:b ≠ l) (e:h.get? b = some ob):(sortedHeap h l vs out).get? b = some ob:=by
 rw [sortedHeap_old hb (Heap.lt_size e)]
 exact e
theorem paired_map {α β γ:Type} {G:α→γ→Prop} {g:β→γ}:∀ {l:List α} {r:List β},Paired (fun x y => G x (g y)) l r→Paired G l (r.map g)
 | _,_,.nil => .nil
 | _,_,.cons q t => .cons q (paired_map t)
theorem sorted_of_set {ks:List K} {Q:Value→Shared→Prop} (hh:A.handled = none) (hS:SetG knd s.heap a ks)
  (fin:∀ (h1:Heap) (tk:Nat) (d:Drawn) (vs:List Value) (ks1:List K),(∀ b ob,s.heap.get? b = some ob→h1.get? b = some ob)→s.heap.objs.size < h1.objs.size→Paired (fun k v => knd.is k v = true) ks1 vs→ks1.Perm ks →
   wpAny (model prog w) A.in1.in1 (Builtin.«list.sort» ⟨[.ref h1.objs.size],[]⟩) (fun r s2 => r = .done (.ret .none)∧Q (.ref h1.objs.size) s2) E { s with heap:=h1.push (seqObj "list" vs.toArray 0),toks:=tk,drawn:=d }) :
  wpAny (model prog w) A (call (.builtin "sorted") [.ref a]) Q E s:=by
 obtain ⟨o,ho,S⟩:=hS
 obtain ⟨es,ep,t,hd,hel,pr,hb,ti,hl⟩:=S.dat
 refine Calls.call_function_entry kind_sorted plain_sorted entry_sorted (args_sorted1 _) ?_
 unfold Builtin.«sorted»
 refine wpAny_bind (m:=checkCount "sorted" 1 1 _) (wpAny_pure ?_)
 refine wpAny_bind (collect_set hh ho S.ex hd ti hl hb fun h1 tk d vs k1 sz hp => ?_)
 have hn:vs.length ≤ sizeLine:=by
  rw [hp.length_eq,List.length_map,Array.length_toList]
  exact fits_of_scanBound hb
 have pr2:Paired (fun k v => knd.is k v = true) ks (es.toList.map (·.2)):=paired_map pr
 obtain ⟨ks1,pr3,pk⟩:=paired_perm hp pr2
 refine wpAny_bind (wpAny_newList ?_ hn)
 refine wpAny_bind (wpAny_holding ?_)
 have at1:(h1.push (seqObj "list" vs.toArray 0)).get? h1.objs.size = some (seqObj "list" vs.toArray 0):=Heap.get?_push_size _ rfl
 refine wpAny_call_entry slot_list_sort ⟨_,at1,rfl⟩ entry_list_sort ?_ (args_list_sort _)
 refine wpAny_mono (fin h1 tk d vs ks1 k1 sz pr3 pk) (fun r s2 q => ?_) fun _ _ z => z
 obtain ⟨rfl,q⟩:=q
 exact ⟨_,rfl,wpAny_pure ⟨_,rfl,q⟩⟩
theorem ints_of {f:K→Int}:∀ {ks:List K} {vs:List Value},(∀ k v,k ∈ ks→knd.is k v = true→∃ t,v = .int (f k) t)→Paired (fun k v => knd.is k v = true) ks vs→IntsAre vs (ks.map f)
 | _,_,_,.nil => .nil
 | k :: ks,v :: vs,hf,.cons r t => by
  obtain ⟨tk,rfl⟩:=hf k v List.mem_cons_self r
  exact .cons _ _ (ints_of (fun k v hk => hf k v (List.mem_cons_of_mem _ hk)) t)
theorem strs_of {f:K→Str}:∀ {ks:List K} {vs:List Value},(∀ k v,k ∈ ks→knd.is k v = true→∃ t,v = .str (f k) t)→Paired (fun k v => knd.is k v = true) ks vs→StrsAre vs (ks.map f)
 | _,_,_,.nil => .nil
 | k :: ks,v :: vs,hf,.cons r t => by
  obtain ⟨tk,rfl⟩:=hf k v List.mem_cons_self r
  exact .cons _ _ (strs_of (fun k v hk => hf k v (List.mem_cons_of_mem _ hk)) t)
theorem sorted_set_ints {ks:List K} {f:K→Int} {Q:Value→Shared→Prop} (hh:A.handled = none) (hS:SetG knd s.heap a ks) (hf:∀ k v,k ∈ ks→knd.is k v = true→∃ t,v = .int (f k) t) (h64:ks.length < 64)
  (fin:∀ (h1:Heap) (tk:Nat) (d:Drawn) (l:Addr) (out:Array Value) (n:Nat) (ns:List Int),(∀ b ob,s.heap.get? b = some ob→h1.get? b = some ob)→s.heap.objs.size ≤ l→h1.get? l = some (seqObj "list" out n)→IntsAre out.toList ns→ns.Perm (ks.map f)→ns.Pairwise (· ≤ ·)→Q (.ref l) { s with heap:=h1,toks:=tk,drawn:=d }) :
  wpAny (model prog w) A (call (.builtin "sorted") [.ref a]) Q E s:=by
 refine sorted_of_set hh hS fun h1 tk d vs ks1 k1 sz pr pk => ?_
 have hI:=ints_of (fun k v hk => hf k v (pk.mem_iff.mp hk)) pr
 have hlen:vs.length = ks.length:=by rw [← pr.length,pk.length_eq]
 refine list_sort_tree (s:={ s with heap:=h1.push (seqObj "list" vs.toArray 0),toks:=tk,drawn:=d }) (Heap.get?_push_size _ rfl) hI (by omega) fun out ns q1 q2 q3 => ⟨rfl, ?_⟩
 obtain ⟨n,e⟩:=sortedHeap_at (h:=h1.push (seqObj "list" vs.toArray 0)) (a:=h1.objs.size) (vs:=vs) (n:=0) (out:=out) (Heap.get?_push_size _ rfl)
 exact fin _ tk d h1.objs.size out n ns (fun b ob e0 => sortedHeap_keep (Nat.ne_of_lt (Heap.lt_size (k1 b ob e0))) (Heap.get?_push_of_some _ (k1 b ob e0))) (Nat.le_of_lt sz) e q1 (q2.trans (pk.map f)) q3
theorem sorted_set_strs {ks:List K} {f:K→Str} {Q:Value→Shared→Prop} (hh:A.handled = none) (hS:SetG knd s.heap a ks) (hf:∀ k v,k ∈ ks→knd.is k v = true→∃ t,v = .str (f k) t) (h64:ks.length < 64)
  (fin:∀ (h1:Heap) (tk:Nat) (d:Drawn) (l:Addr) (out:Array Value) (n:Nat) (ns:List Str),(∀ b ob,s.heap.get? b = some ob→h1.get? b = some ob)→s.heap.objs.size ≤ l→h1.get? l = some (seqObj "list" out n)→StrsAre out.toList ns→ns.Perm (ks.map f)→sortedS ns = true→Q (.ref l) { s with heap:=h1,toks:=tk,drawn:=d }) :
  wpAny (model prog w) A (call (.builtin "sorted") [.ref a]) Q E s:=by
 refine sorted_of_set hh hS fun h1 tk d vs ks1 k1 sz pr pk => ?_
 have hI:=strs_of (fun k v hk => hf k v (pk.mem_iff.mp hk)) pr
 have hlen:vs.length = ks.length:=by rw [← pr.length,pk.length_eq]
 refine list_sort_treeK strKind_oneLt (s:={ s with heap:=h1.push (seqObj "list" vs.toArray 0),toks:=tk,drawn:=d }) (Heap.get?_push_size _ rfl) hI.keysOf (fun v1 v2 Vz e => keyKind_strs (by rw [← e]; exact hI)) (by omega) fun st hp hs => ⟨rfl, ?_⟩
 obtain ⟨ns,q1,q2,q3⟩:=sorted_out_str hI hp hs
 obtain ⟨n,e⟩:=sortedHeap_at (h:=h1.push (seqObj "list" vs.toArray 0)) (a:=h1.objs.size) (vs:=vs) (n:=0) (out:=(arrOf st).map (·.2)) (Heap.get?_push_size _ rfl)
 exact fin _ tk d h1.objs.size _ n ns (fun b ob e0 => sortedHeap_keep (Nat.ne_of_lt (Heap.lt_size (k1 b ob e0))) (Heap.get?_push_of_some _ (k1 b ob e0))) (Nat.le_of_lt sz) e q1 (q2.trans (pk.map f)) q3
end
end SetM
namespace L2
open PySem PySem.Spec PyProof.Rows
def SetHO (P:Program) (w:World) (a:Addr) (us:List Key):HO:=.ext fun h => SetM.SetG (mixKind P w) h a us
theorem scan_kV {P:Program} {w:World} (k:Key) {v:Value} (r:Z6 (kV k) v):(mixKind P w).is k v = true∧v.scannable = true:=by
 cases k with
 | inl i => obtain ⟨t,rfl⟩:=(show ∃ t,v = Value.int i t from r); exact ⟨keyIs_int i t,rfl⟩
 | inr x => obtain ⟨t,rfl⟩:=(show ∃ t,v = Value.str x t from r); exact ⟨keyIs_str x t,rfl⟩
theorem Zo.put {X:Cx} {pins:List (Addr × Obj)} {σ:St} {H:Hp} {s:Shared} {h':Heap} {a:Addr} {o:HO} {t':Nat} {d':Drawn} (I:Zo X pins σ H s) (k:∀ b u,s.heap.get? b = some u→h'.get? b = some u) (hp:s.heap.objs.size ≤ a) (new:Vm X.prog X.w (Z4 H a o) h' a o) :
  Zo X pins σ (Z4 H a o) { s with heap:=h',toks:=t',drawn:=d' } :=
 I.call (g':=s.gens) (t':=t') (d':=d') (ch:=[]) (Un.laid k hp (I.hok.fresh hp)) (I.hok.laid k hp new) I.bare fun b z => absurd z List.not_mem_nil
section
variable {X:Cx}
theorem call_setK (hc:X.calm = true):CallR X (.type "set") (fun xs H Q => ∃ (p:Addr) (ks:List Key),xs = [.ref p]∧Ym X.K H p (ks.map kV)∧ks.length + 1 < scanBound ∧
  ∀ (l:Addr) (us:List Key),H l = none→us.Nodup→(∀ x,x ∈ us ↔ x ∈ ks)→us.length ≤ ks.length→Q (.ref l) (Z4 H l (SetHO X.prog X.w l us))):=by
 intro pins s σ H xs us Q I r h
 obtain ⟨p,ks,rfl,hq,hz,q⟩:=h
 obtain ⟨u,rfl,rx⟩:=vals1 r
 cases rx
 obtain ⟨its,rv,pl,hzz⟩:=I.list hq
 have hl:its.toArray.size = ks.length:=by rw [List.size_toArray, ← rv.length,List.length_map]
 refine SetM.call_set (knd:=mixKind X.prog X.w) (val:=fun i => ks.getD i (.inl 0)) (I.ok.hd hc) pl.isList (fun i v e => ?_) (by omega) fun h1 tk ws S u k1 => ?_
 ·have e':its[i]? = some v:=by simpa using e
  have hi:i < ks.length:=by
   have:=(List.getElem?_eq_some_iff.mp e').1
   rw [List.size_toArray] at hl
   omega
  have e2:(ks.map kV)[i]? = some (kV ks[i]):=by rw [List.getElem?_map,List.getElem?_eq_getElem hi]; rfl
  obtain ⟨v',g1,g2⟩:=rv.get e2
  rw [e'] at g1
  cases g1
  have e3:ks.getD i (.inl 0) = ks[i]:=by simp [hi]
  rw [e3]
  exact scan_kV _ g2
 ·obtain ⟨o,ho,SO⟩:=id S
  have mem:∀ x,x ∈ ws ↔ x ∈ ks:=fun x => by
   rw [u.mem x,hl]
   constructor
   ·rintro ⟨j,h1,h2⟩
    rw [← h2]
    have e3:ks.getD j (.inl 0) = ks[j]:=by simp [h1]
    rw [e3]
    exact List.getElem_mem h1
   ·intro hx
    obtain ⟨j,h1,h2⟩:=List.mem_iff_getElem.mp hx
    exact ⟨j,h1,by simp [h1,h2]⟩
  refine ⟨.ref s.heap.objs.size,_,I.put (o:=SetHO X.prog X.w s.heap.objs.size ws) (d':=s.drawn) k1 (Nat.le_refl _) ⟨S,⟨o,ho⟩,fun h2 h3 x e => SetM.SetG.at' x e⟩,rfl,q _ ws (I.hok.fresh (Nat.le_refl _)) SO.nd mem ?_⟩
  have:=u.len
  omega
theorem vals_strs:∀ {vs:List Value} {ss:List Str},StrsAre vs ss→Z2 (ss.map V.str) vs
 | _,_,.nil => .nil
 | _,_,.cons y t r => .cons ⟨t,rfl⟩ (vals_strs r)
theorem call_sortedI (hc:X.calm = true):CallR X (.builtin "sorted") (fun xs H Q => ∃ (a:Addr) (zs:List Int),xs = [.ref a]∧H a = some (SetHO X.prog X.w a (zs.map Sum.inl))∧zs.length < 64 ∧
  ∀ (l:Addr) (ns:List Int),H l = none→ns.Perm zs→ns.Pairwise (· ≤ ·)→Q (.ref l) (Z4 H l (.lst (ns.map V.int)))):=by
 intro pins s σ H xs us Q I r h
 obtain ⟨a,zs,rfl,hq,hz,q⟩:=h
 obtain ⟨u,rfl,rx⟩:=vals1 r
 cases rx
 obtain ⟨S,_,_⟩:=(show SetM.SetG (mixKind X.prog X.w) s.heap a (zs.map Sum.inl)∧_ from I.hok a _ hq)
 refine SetM.sorted_set_ints (knd:=mixKind X.prog X.w) (f:=fun k => match k with | .inl i => i | .inr _ => 0) (I.ok.hd hc) S (fun k v hk hv => ?_) (by rw [List.length_map]; exact hz) fun h1 tk d l out n ns k1 sz at1 hI pm pw => ?_
 ·obtain ⟨i,_,rfl⟩:=List.mem_map.mp hk
  rcases Yl (show keyIs (Sum.inl i) v = true from hv) with ⟨j,t,e,rfl⟩ | ⟨x,t,e,rfl⟩
  ·cases e; exact ⟨t,rfl⟩
  ·cases e
 ·have pm':ns.Perm zs:=by
   have e:(zs.map (Sum.inl:Int→Key)).map (fun k => match k with | .inl i => i | .inr _ => 0) = zs:=by rw [List.map_map]; exact List.map_id' _
   rw [← e]; exact pm
  refine ⟨.ref l,_,I.put (o:=.lst (ns.map V.int)) k1 sz ⟨?_,out.toList,n,vals_ints hI, ?_⟩,rfl,q l ns (I.hok.fresh sz) pm' pw⟩
  ·rw [List.length_map,pm'.length_eq]
   exact Nat.le_of_lt (Vv (by omega))
  ·simpa using at1
theorem call_sortedS (hc:X.calm = true):CallR X (.builtin "sorted") (fun xs H Q => ∃ (a:Addr) (zs:List Str),xs = [.ref a]∧H a = some (SetHO X.prog X.w a (zs.map Sum.inr))∧zs.length < 64 ∧
  ∀ (l:Addr) (ns:List Str),H l = none→ns.Perm zs→sortedS ns = true→Q (.ref l) (Z4 H l (.lst (ns.map V.str)))):=by
 intro pins s σ H xs us Q I r h
 obtain ⟨a,zs,rfl,hq,hz,q⟩:=h
 obtain ⟨u,rfl,rx⟩:=vals1 r
 cases rx
 obtain ⟨S,_,_⟩:=(show SetM.SetG (mixKind X.prog X.w) s.heap a (zs.map Sum.inr)∧_ from I.hok a _ hq)
 refine SetM.sorted_set_strs (knd:=mixKind X.prog X.w) (f:=fun k => match k with | .inl _ => ("" : Str) | .inr x => x) (I.ok.hd hc) S (fun k v hk hv => ?_) (by rw [List.length_map]; exact hz) fun h1 tk d l out n ns k1 sz at1 hI pm pw => ?_
 ·obtain ⟨x,_,rfl⟩:=List.mem_map.mp hk
  rcases Yl (show keyIs (Sum.inr x) v = true from hv) with ⟨j,t,e,rfl⟩ | ⟨y,t,e,rfl⟩
  ·cases e
  ·cases e; exact ⟨t,rfl⟩
 ·have pm':ns.Perm zs:=by
   have e:(zs.map (Sum.inr:Str→Key)).map (fun k => match k with | .inl _ => ("" : Str) | .inr x => x) = zs:=by rw [List.map_map]; exact List.map_id' _
   rw [← e]; exact pm
  refine ⟨.ref l,_,I.put (o:=.lst (ns.map V.str)) k1 sz ⟨?_,out.toList,n,vals_strs hI, ?_⟩,rfl,q l ns (I.hok.fresh sz) pm' pw⟩
  ·rw [List.length_map,pm'.length_eq]
   exact Nat.le_of_lt (Vv (by omega))
  ·simpa using at1
end
end L2
namespace ZipL
open PySem PySem.Calls PyProof.Rows PyProof.V PySem.Spec
abbrev ZAt (h:Heap) (z TI TO:Addr) (f0 f1:Value):Prop :=
 h.get? z = some { cls:=.type "zip",dict:=none,data:=.fields #[f0,f1,.bool false,.ref TI,.ref TO],slots:=#[] }
section
variable {prog:Program} {w:World} {A:Around} {E:Value→Shared→Prop} {s:Shared} {z TI TO T i1 i2 l1 l2:Addr} {f:Bool} {oT:Obj} {k1 k2:Nat} {xs ys:Array Value} {x y:Value}
theorem busy {Q:Bool→Shared→Prop} (hz:ZAt s.heap z TI TO (rawInt T) (.bool f)) (hT:s.heap.get? T = some oT)
  (fin:∀ h',ZAt h' z TI TO (rawInt T) (.bool true)→Heap.SameBut z s.heap h'→Q false { s with heap:=h' }) :
  wpAny (model prog w) A (Builtin.SmallTypes.ownedTupleIsFree (.ref z)) Q E s:=by
 unfold Builtin.SmallTypes.ownedTupleIsFree
 refine wpAny_bind (wpAny_field hz rfl (x:=rawInt T) rfl ?_)
 change wpAny _ _ (loadIfAlive ((T:Int).toNat) >>= _) _ _ _
 rw [Int.toNat_natCast]
 refine wpAny_bind (W.kdx_alive hT ?_)
 simp only [Option.isNone_some,Bool.false_eq_true,if_false]
 refine wpAny_bind (wpAny_field hz rfl (x:=.bool f) rfl ?_)
 cases f with
 | true =>
  have e:(Value.bool true != Value.bool true) = false:=rfl
  rw [e]
  simp only [Bool.false_eq_true,if_false]
  exact wpAny_pure (fin s.heap hz (Heap.SameBut.refl _ _))
 | false =>
  have e:(Value.bool false != Value.bool true) = true:=rfl
  rw [e]
  simp only [if_true]
  refine wpAny_bind (wpAny_setField_rec hz (by simp) fun h' hz' hs' => ?_)
  exact wpAny_pure (fin h' hz' hs')
theorem more_item {Q:Value→Shared→Prop} (D:ZipApart z TI TO i1 i2 l1 l2) (hz:ZAt s.heap z TI TO (rawInt T) (.bool f)) (hT:s.heap.get? T = some oT) (hTI:IsPair s.heap TI (.ref i1) (.ref i2))
  (h1:s.heap.IsListIter i1 l1 k1) (h2:s.heap.IsListIter i2 l2 k2) (hl1:s.heap.IsList l1 xs) (hl2:s.heap.IsList l2 ys) (hx:xs[k1]? = some x) (hy:ys[k2]? = some y)
  (hQ:∀ h',ZAt h' z TI TO (rawInt T) (.bool true)→h'.IsListIter i1 l1 (k1 + 1)→h'.IsListIter i2 l2 (k2 + 1)→IsPair h' s.heap.objs.size x y→h'.objs.size = s.heap.objs.size + 1 →
   (∀ c o,c ≠ z→c ≠ i1→c ≠ i2→s.heap.get? c = some o→h'.get? c = some o)→Q (.ref s.heap.objs.size) { s with heap:=h' }) :
  wpAny (model prog w) A (Builtin.«zip.__next__» ⟨[.ref z],[]⟩) (fun fin s' => ∃ v,fin = .done (.ret v)∧Q v s') E s:=by
 change wpAny _ _ (field (.ref z) 2 >>= _) _ _ _
 refine wpAny_bind (wpAny_field hz rfl (x:=.bool false) rfl ?_)
 change wpAny _ _ (field (.ref z) 3 >>= _) _ _ _
 refine wpAny_bind (wpAny_field hz rfl (x:=.ref TI) rfl ?_)
 refine wpAny_bind (wpAny_seqItems hTI rfl ?_)
 change wpAny _ _ (Builtin.SmallTypes.ownedTupleIsFree (.ref z) >>= _) _ _ _
 refine wpAny_bind (busy hz hT fun g1 z1 s1 => ?_)
 simp only [Bool.false_eq_true,if_false]
 refine wpAny_bind ?_
 simp only [List.forIn_toArray,List.forIn_cons,List.forIn_nil]
 refine wpAny_bind (wpAny_bind (wpAny_holding ?_))
 change wpAny _ _ (Builtin.SmallTypes.nextOf (.ref i1) >>= _) _ _ _
 refine wpAny_bind (wpAny_nextOf_list_item (h1.extBut s1.extBut D.i1z) (hl1.extBut s1.extBut D.l1z) hx fun g2 n1 s2 => wpAny_pure (wpAny_pure ?_))
 dsimp only
 refine wpAny_bind (wpAny_bind (wpAny_holding ?_))
 change wpAny _ _ (Builtin.SmallTypes.nextOf (.ref i2) >>= _) _ _ _
 refine wpAny_bind (wpAny_nextOf_list_item ((h2.extBut s1.extBut D.i2z).extBut s2.extBut D.i12.symm) ((hl2.extBut s1.extBut D.l2z).extBut s2.extBut D.l2i1) hy fun g3 n2 s3 => wpAny_pure (wpAny_pure (wpAny_pure ?_)))
 refine wpAny_bind (wpAny_newTuple (hsz:=by show 2 ≤ sizeLine; decide) (wpAny_pure ⟨_,rfl, ?_⟩))
 have sz:g3.objs.size = s.heap.objs.size:=by rw [s3.1,s2.1,s1.1]
 have zz:ZAt g3 z TI TO (rawInt T) (.bool true):=s3.extBut _ _ D.i2z.symm (s2.extBut _ _ D.i1z.symm z1)
 have kk:∀ c o,c ≠ z→c ≠ i1→c ≠ i2→s.heap.get? c = some o→g3.get? c = some o:=fun c o a b d e => s3.extBut _ _ d (s2.extBut _ _ b (s1.extBut _ _ a e))
 have m1:=n1.extBut s3.extBut D.i12
 change Q (.ref g3.objs.size) _
 rw [sz]
 refine hQ _ (Heap.get?_push_of_some _ zz) (m1.at fun o e => Heap.get?_push_of_some _ e) (n2.at fun o e => Heap.get?_push_of_some _ e) ?_ ?_ fun c o a b d e => Heap.get?_push_of_some _ (kk c o a b d e)
 ·rw [← sz]; exact Heap.get?_push_size _ rfl
 ·rw [Heap.size_push,sz]
theorem more_end {Q:Fin→Shared→Prop} (hh:A.handled = none) (D:ZipApart z TI TO i1 i2 l1 l2) (hz:ZAt s.heap z TI TO (rawInt T) (.bool f)) (hT:s.heap.get? T = some oT) (hTI:IsPair s.heap TI (.ref i1) (.ref i2))
  (h1:s.heap.IsListIter i1 l1 k1) (h2:s.heap.IsListIter i2 l2 k2) (hl1:s.heap.IsList l1 xs) (hl2:s.heap.IsList l2 ys) (hend:xs[k1]? = none ∨ ys[k2]? = none)
  (hE:∀ h' e,(∀ c o,c ≠ z→c ≠ i1→c ≠ i2→s.heap.get? c = some o→h'.get? c = some o)→(∃ o,h'.get? e = some o∧o.cls = .type "StopIteration")→E (.ref e) { s with heap:=h' }) :
  wpAny (model prog w) A (Builtin.«zip.__next__» ⟨[.ref z],[]⟩) Q E s:=by
 change wpAny _ _ (field (.ref z) 2 >>= _) _ _ _
 refine wpAny_bind (wpAny_field hz rfl (x:=.bool false) rfl ?_)
 change wpAny _ _ (field (.ref z) 3 >>= _) _ _ _
 refine wpAny_bind (wpAny_field hz rfl (x:=.ref TI) rfl ?_)
 refine wpAny_bind (wpAny_seqItems hTI rfl ?_)
 change wpAny _ _ (Builtin.SmallTypes.ownedTupleIsFree (.ref z) >>= _) _ _ _
 refine wpAny_bind (busy hz hT fun g1 z1 s1 => ?_)
 simp only [Bool.false_eq_true,if_false]
 refine wpAny_bind ?_
 simp only [List.forIn_toArray,List.forIn_cons,List.forIn_nil]
 refine wpAny_bind (wpAny_bind (wpAny_holding ?_))
 change wpAny _ _ (Builtin.SmallTypes.nextOf (.ref i1) >>= _) _ _ _
 cases hx:xs[k1]? with
 | none =>
  exact wpAny_bind (wpAny_nextOf_list_end hh (h1.extBut s1.extBut D.i1z) (hl1.extBut s1.extBut D.l1z) hx fun g2 e s2 he => hE g2 e (fun c o a b _ q => s2 _ _ b (s1.extBut _ _ a q)) he)
 | some x =>
  have hy:ys[k2]? = none:=hend.resolve_left fun h => by rw [hx] at h; cases h
  refine wpAny_bind (wpAny_nextOf_list_item (h1.extBut s1.extBut D.i1z) (hl1.extBut s1.extBut D.l1z) hx fun g2 n1 s2 => wpAny_pure (wpAny_pure ?_))
  dsimp only
  refine wpAny_bind (wpAny_bind (wpAny_holding ?_))
  change wpAny _ _ (Builtin.SmallTypes.nextOf (.ref i2) >>= _) _ _ _
  exact wpAny_bind (wpAny_nextOf_list_end hh ((h2.extBut s1.extBut D.i2z).extBut s2.extBut D.i12.symm) ((hl2.extBut s1.extBut D.l2z).extBut s2.extBut D.l2i1) hy fun g3 e s3 he =>
   hE g3 e (fun c o a b d q => s3 _ _ d (s2.extBut _ _ b (s1.extBut _ _ a q))) he)
structure ZSt (h:Heap) (z TI TO i1 i2 l1 l2 S:Addr) (xs ys:Array Value) (i:Nat):Prop where
 at0:ZAt h z TI TO .none (.bool false) ∨ ∃ (T:Addr) (f:Bool) (oT:Obj),ZAt h z TI TO (rawInt T) (.bool f)∧h.get? T = some oT∧T ≠ z∧T ≠ TO∧T ≠ i1∧T ≠ i2∧T ≠ S
 ti:IsPair h TI (.ref i1) (.ref i2)
 to:∃ a b,IsPair h TO a b
 it1:h.IsListIter i1 l1 i
 it2:h.IsListIter i2 l2 i
 ls1:h.IsList l1 xs
 ls2:h.IsList l2 ys
theorem ZSt.keep {h h':Heap} {S:Addr} {i:Nat} (q:ZSt h z TI TO i1 i2 l1 l2 S xs ys i) (k:∀ c o,c ≠ S→h.get? c = some o→h'.get? c = some o) (hS:∀ c ∈ [z,TI,TO,i1,i2,l1,l2],c ≠ S):ZSt h' z TI TO i1 i2 l1 l2 S xs ys i where
 at0:=by
  have e:=hS z (by simp)
  rcases q.at0 with a | ⟨T,f,oT,a,b,c⟩
  ·exact .inl (k _ _ e a)
  ·exact .inr ⟨T,f,oT,k _ _ e a,k _ _ c.2.2.2.2 b,c⟩
 ti:=k _ _ (hS TI (by simp)) q.ti
 to:=let ⟨a,b,e⟩:=q.to; ⟨a,b,k _ _ (hS TO (by simp)) e⟩
 it1:=q.it1.at fun o e => k _ o (hS i1 (by simp)) e
 it2:=q.it2.at fun o e => k _ o (hS i2 (by simp)) e
 ls1:=q.ls1.at fun o e => k _ o (hS l1 (by simp)) e
 ls2:=q.ls2.at fun o e => k _ o (hS l2 (by simp)) e
theorem st_item {S:Addr} {i:Nat} {Q:Option Value→Shared→Prop} (D:ZipApart z TI TO i1 i2 l1 l2) (q:ZSt s.heap z TI TO i1 i2 l1 l2 S xs ys i) (hS:S < s.heap.objs.size) (hx:xs[i]? = some x) (hy:ys[i]? = some y)
  (hQ:∀ h',ZSt h' z TI TO i1 i2 l1 l2 S xs ys (i + 1)→IsPair h' s.heap.objs.size x y→h'.objs.size = s.heap.objs.size + 1 →
   (∀ c o,c ≠ z→c ≠ TO→c ≠ i1→c ≠ i2→s.heap.get? c = some o→h'.get? c = some o)→Q (some (.ref s.heap.objs.size)) { s with heap:=h' }) :
  wpAny (model prog w) A (pyNext (.ref z)) Q E s:=by
 have lt:∀ {c o},s.heap.get? c = some o→s.heap.objs.size ≠ c:=fun e => Nat.ne_of_gt (Heap.lt_size e)
 obtain ⟨a,b,hTO⟩:=q.to
 have e1:s.heap.objs.size ≠ i1:=by obtain ⟨_,e,_⟩:=q.it1; exact lt e
 have e2:s.heap.objs.size ≠ i2:=by obtain ⟨_,e,_⟩:=q.it2; exact lt e
 rcases q.at0 with hz | ⟨T,f,oT,hz,hT,t1,t2,t3,t4,t5⟩
 ·refine wpAny_pyNext_zip_item D hz q.ti hTO q.it1 q.it2 q.ls1 q.ls2 hx hy fun h' a1 a2 a3 a4 a5 a6 hk => hQ h' ⟨.inr ⟨_,false,_,a1,a5,lt hz,lt hTO,e1,e2,Nat.ne_of_gt hS⟩, ?_,⟨_,_,a2⟩,a3,a4, ?_, ?_⟩ a5 a6 hk
  ·exact hk _ _ D.TIz D.TITO D.TIi1 D.TIi2 q.ti
  ·exact q.ls1.at fun o e => hk _ o D.l1z D.l1TO D.l1i1 D.l1i2 e
  ·exact q.ls2.at fun o e => hk _ o D.l2z D.l2TO D.l2i1 D.l2i2 e
 ·have ty:s.TypeIs (.ref z) "zip" := ⟨_,hz,rfl⟩
  unfold pyNext
  refine wpAny_bind (wpAny_attempt (wpAny_callSpecial?_slot (name:=Str.ofString "__next__") ty F.slot_zip_next (wpAny_call_entry F.slot_zip_next ty F.entry_zip_next ?_ (F.args_zip_next_1 _))))
  refine more_item D hz hT q.ti q.it1 q.it2 q.ls1 q.ls2 hx hy fun h' a1 a3 a4 a5 a6 hk => wpAny_pure ?_
  refine hQ h' ⟨.inr ⟨T,true,oT,a1,hk _ _ t1 t3 t4 hT,t1,t2,t3,t4,t5⟩, ?_,⟨a,b, ?_⟩,a3,a4, ?_, ?_⟩ a5 a6 fun c o c1 _ c3 c4 e => hk c o c1 c3 c4 e
  ·exact hk _ _ D.TIz D.TIi1 D.TIi2 q.ti
  ·exact hk _ _ D.TOz D.TOi1 D.TOi2 hTO
  ·exact q.ls1.at fun o e => hk _ o D.l1z D.l1i1 D.l1i2 e
  ·exact q.ls2.at fun o e => hk _ o D.l2z D.l2i1 D.l2i2 e
theorem st_done {S:Addr} {i:Nat} {Q:Option Value→Shared→Prop} (hh:A.handled = none) (D:ZipApart z TI TO i1 i2 l1 l2) (q:ZSt s.heap z TI TO i1 i2 l1 l2 S xs ys i) (hend:xs[i]? = none ∨ ys[i]? = none)
  (hQ:∀ h',(∀ c o,c ≠ z→c ≠ TO→c ≠ i1→c ≠ i2→s.heap.get? c = some o→h'.get? c = some o)→Q none { s with heap:=h' }) :
  wpAny (model prog w) A (pyNext (.ref z)) Q E s:=by
 obtain ⟨a,b,hTO⟩:=q.to
 rcases q.at0 with hz | ⟨T,f,oT,hz,hT,t1,t2,t3,t4,t5⟩
 ·exact wpAny_pyNext_zip_end hh D hz q.ti hTO q.it1 q.it2 q.ls1 q.ls2 hend hQ
 ·have ty:s.TypeIs (.ref z) "zip" := ⟨_,hz,rfl⟩
  unfold pyNext
  refine wpAny_bind (wpAny_attempt (wpAny_callSpecial?_slot (name:=Str.ofString "__next__") ty F.slot_zip_next (wpAny_call_entry F.slot_zip_next ty F.entry_zip_next ?_ (F.args_zip_next_1 _))))
  refine more_end hh D hz hT q.ti q.it1 q.it2 q.ls1 q.ls2 hend fun h' e hk he => ?_
  obtain ⟨o,ho,hc⟩:=he
  refine wpAny_bind (wpAny_isInstance (T:="StopIteration") (b:=true) ⟨o,ho,hc⟩ isSubtype_stop ?_)
  exact wpAny_pure (hQ _ fun c o c1 _ c3 c4 e => hk c o c1 c3 c4 e)
end
theorem zip_no_len:typeLookup (.type "zip") "__len__" = pure none:=by rw [typeLookup_type,builtinLookup_eq_fast]; kernel_rfl
theorem zip_no_hint:typeLookup (.type "zip") "__length_hint__" = pure none:=by rw [typeLookup_type,builtinLookup_eq_fast]; kernel_rfl
section
variable {prog:Program} {w:World} {A:Around} {R:Result→Shared→Prop} {E:Value→Shared→Prop} {s:Shared} {z TI TO i1 i2 l1 l2 S:Addr} {xs ys:Array Value}
theorem hint {Q:Bool→Shared→Prop} (hT:s.TypeIs (.ref z) "zip") (h:Q true s):wpAny (model prog w) A (Builtin.List.listLengthHint (.ref z)) Q E s:=by
 unfold Builtin.List.listLengthHint
 refine wpAny_bind (wpAny_specialOf hT zip_no_len ?_)
 wp_delta
 refine wpAny_ite_split (fun z => absurd z (by decide)) fun _ => ?_
 refine wpAny_bind (wpAny_specialOf hT zip_no_hint ?_)
 exact wpAny_pure h
structure Made (h:Heap) (lo:Addr) (xs ys:Array Value) (as:List Addr):Prop where
 rise:as.Pairwise (· < ·)
 above:∀ a ∈ as,lo ≤ a
 pairs:∀ (j:Nat) (a:Addr),as[j]? = some a→∃ x y,xs[j]? = some x∧ys[j]? = some y∧IsPair h a x y
theorem Made.there {h:Heap} {lo:Addr} {as:List Addr} (g:Made h lo xs ys as) {a:Addr} (ha:a ∈ as):a < h.objs.size:=by
 obtain ⟨j,hj⟩:=List.mem_iff_getElem?.mp ha
 obtain ⟨_,_,_,_,e⟩:=g.pairs j a hj
 exact Heap.lt_size e
theorem Made.keep {h h':Heap} {lo:Addr} {as:List Addr} (g:Made h lo xs ys as) (k:∀ c o,lo ≤ c→h.get? c = some o→h'.get? c = some o):Made h' lo xs ys as :=
 ⟨g.rise,g.above,fun j a e => by
  obtain ⟨x,y,e1,e2,e3⟩:=g.pairs j a e
  exact ⟨x,y,e1,e2,k a _ (g.above a (List.mem_of_getElem? e)) e3⟩⟩
theorem Made.more {h:Heap} {lo:Addr} {as:List Addr} {x y:Value} {b:Addr} (g:Made h lo xs ys as) (hb:IsPair h b x y) (up:∀ a ∈ as,a < b) (hl:lo ≤ b) (hx:xs[as.length]? = some x) (hy:ys[as.length]? = some y):Made h lo xs ys (as ++ [b]):=by
 refine ⟨List.pairwise_append.mpr ⟨g.rise,List.pairwise_singleton _ _,fun a ha c hc => by rw [List.mem_singleton.mp hc]; exact up a ha⟩,fun a ha => ?_,fun j a e => ?_⟩
 ·rcases List.mem_append.mp ha with q | q
  ·exact g.above a q
  ·rw [List.mem_singleton.mp q]; exact hl
 ·by_cases hj:j < as.length
  ·rw [List.getElem?_append_left hj] at e
   exact g.pairs j a e
  ·have hj':j = as.length:=by
    have:=(List.getElem?_eq_some_iff.mp e).1
    rw [List.length_append,List.length_singleton] at this
    omega
   subst hj'
   have hba:b = a:=by simpa using e
   subst hba
   exact ⟨x,y,hx,hy,hb⟩
theorem loop (hh:A.handled = none) (D:ZipApart z TI TO i1 i2 l1 l2) (hS:∀ c ∈ [z,TI,TO,i1,i2,l1,l2],c ≠ S) (res:Value) (lo:Addr) (hlo:∀ c ∈ [S,z,TI,TO,i1,i2],c < lo) (hn:xs.size ≤ sizeLine) {h₁:Heap}
  (fin:∀ h' tk acc c as,(∀ b o,b ∉ [S,z,TO,i1,i2]→h₁.get? b = some o→h'.get? b = some o)→h'.get? S = some { cls:=.type "list",dict:=none,data:=.seq acc c,slots:=#[] }→as.length = min xs.size ys.size→Made h' lo xs ys as →
   acc.toList = as.map Value.ref→R (.ok (.ret res)) { s with heap:=h',toks:=tk }) :
  ∀ (k i:Nat) (h:Heap) (tk c:Nat) (acc:Array Value) (as:List Addr),min xs.size ys.size - i = k→i ≤ min xs.size ys.size→ZSt h z TI TO i1 i2 l1 l2 S xs ys i→(∀ b o,b ∉ [S,z,TO,i1,i2]→h₁.get? b = some o→h.get? b = some o) →
   h.get? S = some { cls:=.type "list",dict:=none,data:=.seq acc c,slots:=#[] }→acc.toList = as.map Value.ref→as.length = i→Made h lo xs ys as→lo ≤ h.objs.size →
   codeAny (model prog w) A (.builtin "list.extend.loop" ⟨[.ref S,.ref z,res],[]⟩) R { s with heap:=h,toks:=tk }:=by
 have nb:∀ {b:Addr},b ∉ [S,z,TO,i1,i2]→b ≠ S∧b ≠ z∧b ≠ TO∧b ≠ i1∧b ≠ i2:=fun q => by simpa [not_or] using q
 have nlo:∀ {b:Addr},lo ≤ b→b ≠ S∧b ≠ z∧b ≠ TO∧b ≠ i1∧b ≠ i2:=fun q =>
  have f:∀ c ∈ [S,z,TI,TO,i1,i2],_:=fun c hc => Nat.ne_of_gt (Nat.lt_of_lt_of_le (hlo c hc) q)
  ⟨f S (by simp),f z (by simp),f TO (by simp),f i1 (by simp),f i2 (by simp)⟩
 have Sn:S ≠ z∧S ≠ TO∧S ≠ i1∧S ≠ i2:=⟨(hS z (by simp)).symm,(hS TO (by simp)).symm,(hS i1 (by simp)).symm,(hS i2 (by simp)).symm⟩
 intro k
 induction k with
 | zero =>
  intro i h tk c acc as hk hi st kp hSo hacc hal G hsz
  have hend:xs[i]? = none ∨ ys[i]? = none:=by
   have e:i = min xs.size ys.size:=by omega
   rcases Nat.le_total xs.size ys.size with q | q
   ·exact .inl (Array.getElem?_eq_none (by omega))
   ·exact .inr (Array.getElem?_eq_none (by omega))
  refine codeAny_builtin PySem.F.entry_extend_loop ?_
  rw [Around.under_plainId PySem.F.plain_extend_loop _]
  change wpAny _ A.in1 (pyNext (.ref z) >>= _) _ _ _
  refine wpAny_bind (st_done (s:={ s with heap:=h,toks:=tk }) (A:=A.in1) hh D st hend fun h' he => ?_)
  exact wpAny_pure (fin h' tk acc c as (fun b o q e => he b o (nb q).2.1 (nb q).2.2.1 (nb q).2.2.2.1 (nb q).2.2.2.2 (kp b o q e)) (he S _ Sn.1 Sn.2.1 Sn.2.2.1 Sn.2.2.2 hSo) (by omega)
   (G.keep fun b o q e => he b o (nlo q).2.1 (nlo q).2.2.1 (nlo q).2.2.2.1 (nlo q).2.2.2.2 e) hacc)
 | succ k ih =>
  intro i h tk c acc as hk hi st kp hSo hacc hal G hsz
  have l1':i < xs.size:=by omega
  have l2':i < ys.size:=by omega
  have asz:acc.size = i:=by rw [← Array.length_toList,hacc,List.length_map,hal]
  refine codeAny_builtin PySem.F.entry_extend_loop ?_
  rw [Around.under_plainId PySem.F.plain_extend_loop _]
  change wpAny _ A.in1 (pyNext (.ref z) >>= _) _ _ _
  refine wpAny_bind (st_item (s:={ s with heap:=h,toks:=tk }) (A:=A.in1) D st (Heap.lt_size hSo) (Array.getElem?_eq_getElem l1') (Array.getElem?_eq_getElem l2') fun h' st' ht hz hkp => ?_)
  dsimp only at ht hz hkp ⊢
  have hS':=hkp S _ Sn.1 Sn.2.1 Sn.2.2.1 Sn.2.2.2 hSo
  have up:∀ b o,b ≠ S→h'.get? b = some o→(h'.update S (Obj.mapSeq (·.push (Value.ref h.objs.size)))).get? b = some o:=fun b o hb e => (Heap.get?_update_other _ _ (Ne.symm hb)).trans e
  have hSl:S < h.objs.size:=Heap.lt_size hSo
  change wpAny _ A.in1 (updateSeq S (·.push (Value.ref h.objs.size)) >>= _) _ _ _
  refine wpAny_bind ?_
  have G1:Made (h'.update S (Obj.mapSeq (·.push (Value.ref h.objs.size)))) lo xs ys (as ++ [h.objs.size]):=by
   have g0:Made (h'.update S (Obj.mapSeq (·.push (Value.ref h.objs.size)))) lo xs ys as:=G.keep fun b o q e => up b o (nlo q).1 (hkp b o (nlo q).2.1 (nlo q).2.2.1 (nlo q).2.2.2.1 (nlo q).2.2.2.2 e)
   refine g0.more (up _ _ (Nat.ne_of_gt hSl) ht) (fun a ha => G.there ha) hsz ?_ ?_
   ·rw [hal]; exact Array.getElem?_eq_getElem l1'
   ·rw [hal]; exact Array.getElem?_eq_getElem l2'
  refine wpAny_updateSeq hS' rfl (wpAny_pure ⟨plainId_quiet PySem.F.plain_extend_loop _,ih (i + 1) _ tk _ (acc.push (Value.ref h.objs.size)) (as ++ [h.objs.size]) (by omega) (by omega) (st'.keep (fun c o q e => up c o q e) hS) (fun b o q e => up b o (nb q).1 (hkp b o (nb q).2.1 (nb q).2.2.1 (nb q).2.2.2.1 (nb q).2.2.2.2 (kp b o q e))) (Heap.get?_update_self _ hS' rfl) (by rw [Array.toList_push,hacc,List.map_append]; rfl) (by rw [List.length_append,hal]; rfl) G1 ?_⟩) (by rw [asz]; omega) (by show (acc.push (Value.ref h.objs.size)).size ≤ sizeLine + 1; rw [Array.size_push,asz]; omega)
  exact Nat.le_trans hsz (Nat.le_of_lt (Heap.lt_size (up _ _ (Nat.ne_of_gt hSl) ht)))
theorem extend (hh:A.handled = none) (D:ZipApart z TI TO i1 i2 l1 l2) (hS:∀ c ∈ [z,TI,TO,i1,i2,l1,l2],c ≠ S) (res:Value) (hn:xs.size ≤ sizeLine) {c₀:Nat} (st:ZSt s.heap z TI TO i1 i2 l1 l2 S xs ys 0) (hSo:s.heap.get? S = some { cls:=.type "list",data:=.seq #[] c₀ })
  (fin:∀ h' tk acc c as,(∀ b o,b ∉ [S,z,TO,i1,i2]→s.heap.get? b = some o→h'.get? b = some o)→h'.get? S = some { cls:=.type "list",dict:=none,data:=.seq acc c,slots:=#[] }→as.length = min xs.size ys.size→Made h' s.heap.objs.size xs ys as →
   acc.toList = as.map Value.ref→R (.ok (.ret res)) { s with heap:=h',toks:=tk }) :
  wpAny (model prog w) A.in1 (Builtin.List.listExtendWith (.ref S) (.ref z) res)
   (fun fin s' => match fin with | .done f => R (.ok f) s' | .again c' => c'.quiet = true∧codeAny (model prog w) A c' R s') (fun e s' => R (.error e) s') s:=by
 have zt:∃ f0 f1,ZAt s.heap z TI TO f0 f1:=by
  rcases st.at0 with a | ⟨T,f,oT,a,_⟩
  ·exact ⟨_,_,a⟩
  ·exact ⟨_,_,a⟩
 obtain ⟨f0,f1,hz⟩:=zt
 obtain ⟨ta,tb,hTO⟩:=st.to
 have ty:s.TypeIs (.ref z) "zip" := ⟨_,hz,rfl⟩
 have hlo:∀ c ∈ [S,z,TI,TO,i1,i2],c < s.heap.objs.size:=fun c hc => by
  have a1:=Heap.lt_size hSo
  have a2:=Heap.lt_size hz
  have a3:=Heap.lt_size st.ti
  have a4:=Heap.lt_size hTO
  obtain ⟨_,e1,_⟩:=st.it1
  obtain ⟨_,e2,_⟩:=st.it2
  have a5:=Heap.lt_size e1
  have a6:=Heap.lt_size e2
  simp only [List.mem_cons,List.not_mem_nil,or_false] at hc
  rcases hc with rfl | rfl | rfl | rfl | rfl | rfl <;> assumption
 unfold Builtin.List.listExtendWith
 refine wpAny_bind (wpAny_typeOf ty ?_)
 have n1:Builtin.List.listSameRef (.ref S) (.ref z) = false:=by
  simp only [Builtin.List.listSameRef,beq_eq_false_iff_ne]
  exact (hS z (by simp)).symm
 have n2:(Value.type "zip" == Value.type "list") = false:=by decide
 have n3:(Value.type "zip" == Value.type "tuple") = false:=by decide
 simp only [n1,n2,n3,Bool.or_false,Bool.false_eq_true,if_false]
 have it:∀ {Q:Value→Shared→Prop},Q (.ref z) s→wpAny (model prog w) A.in1 (pyIter (.ref z)) Q (fun e s' => R (.error e) s') s:=fun q => by
  refine wpAny_pyIter_slot ty F.slot_zip_iter (wpAny_call_entry F.slot_zip_iter ty F.entry_zip_iter ?_ (F.args_zip_iter_1 _))
  change wpAny _ _ (ret (.ref z)) _ _ s
  exact wpAny_pure ⟨_,rfl,"zip",_,ty,F.slot_zip_next.lookup,q⟩
 refine wpAny_bind (it ?_)
 refine wpAny_bind (wpAny_holding (hint ty ?_))
 simp only [Bool.true_or,if_true]
 refine wpAny_bind (wpAny_rule (wpAny_bind (m:=Builtin.List.listTouch (.ref S)) ?_))
 change wpAny (model prog w) _ (updateSeq S (·.push .none) >>= fun _ => updateSeq S (·.pop)) _ _ _
 refine wpAny_bind (wpAny_updateSeq hSo rfl ?_)
 have u1:=Heap.get?_update_self (Obj.mapSeq (·.push Value.none)) hSo rfl
 refine wpAny_updateSeq (hz:=by seq_fits) u1 rfl ?_
 have u2:=Heap.get?_update_self (Obj.mapSeq (·.pop)) u1 rfl
 have other:∀ b ob,b ≠ S→s.heap.get? b = some ob→((s.heap.update S (Obj.mapSeq (·.push Value.none))).update S (Obj.mapSeq (·.pop))).get? b = some ob:=fun b ob q e => (Heap.get?_update_other _ _ (Ne.symm q)).trans ((Heap.get?_update_other _ _ (Ne.symm q)).trans e)
 refine wpAny_pure ⟨plainId_quiet PySem.F.plain_extend_loop _, ?_⟩
 exact loop (h₁:=s.heap) (s:=s) hh D hS res s.heap.objs.size hlo hn fin _ 0 _ s.toks _ #[] [] rfl (Nat.zero_le _) (st.keep (fun c o q e => other c o q e) hS) (fun b o q e => other b o (fun e' => q (by rw [e']; exact List.mem_cons_self)) e) u2 rfl rfl
  ⟨List.Pairwise.nil,(fun _ ha => nomatch ha),fun j a hj => by simp at hj⟩ (by rw [Heap.size_update,Heap.size_update]; exact Nat.le_refl _)
theorem call_list {Q:Value→Shared→Prop} (hh:A.handled = none) (D:ZipApart z TI TO i1 i2 l1 l2) (hn:xs.size ≤ sizeLine) (hz:IsZip s.heap z TI TO .none) (hTI:IsPair s.heap TI (.ref i1) (.ref i2)) {a b:Value} (hTO:IsPair s.heap TO a b)
  (h1:s.heap.IsListIter i1 l1 0) (h2:s.heap.IsListIter i2 l2 0) (hl1:s.heap.IsList l1 xs) (hl2:s.heap.IsList l2 ys)
  (fin:∀ h' tk acc c as,(∀ b o,b ∉ [z,TO,i1,i2]→s.heap.get? b = some o→h'.get? b = some o)→h'.get? s.heap.objs.size = some { cls:=.type "list",dict:=none,data:=.seq acc c,slots:=#[] }→as.length = min xs.size ys.size→Made h' (s.heap.objs.size + 1) xs ys as →
   acc.toList = as.map Value.ref→Q (.ref s.heap.objs.size) { s with heap:=h',toks:=tk }) :
  wpAny (model prog w) A (call (.type "list") [.ref z]) Q E s:=by
 have lt:∀ {c o},s.heap.get? c = some o→c ≠ s.heap.objs.size:=fun e => Nat.ne_of_lt (Heap.lt_size e)
 have pu:∀ {c o},s.heap.get? c = some o→(s.heap.push { cls:=.type "list",data:=.seq #[] }).get? c = some o:=fun e => Heap.get?_push_of_some _ e
 have hS:∀ c ∈ [z,TI,TO,i1,i2,l1,l2],c ≠ s.heap.objs.size:=fun c hc => by
  obtain ⟨_,e1,_⟩:=id h1
  obtain ⟨_,e2,_⟩:=id h2
  obtain ⟨_,e3,_⟩:=id hl1
  obtain ⟨_,e4,_⟩:=id hl2
  simp only [List.mem_cons,List.not_mem_nil,or_false] at hc
  rcases hc with rfl | rfl | rfl | rfl | rfl | rfl | rfl
  ·exact lt hz
  ·exact lt hTI
  ·exact lt hTO
  ·exact lt e1
  ·exact lt e2
  ·exact lt e3
  ·exact lt e4
 refine callType_codes (Q₁:=fun obj s₁ => obj = .ref s.heap.objs.size∧s₁ = { s with heap:=s.heap.push { cls:=.type "list",data:=.seq #[] } }) PySem.F.called_list (PySem.F.typeCall_list_1 _) PySem.F.entry_list_init
  (code_list_new _ ⟨rfl,rfl⟩) fun obj s₁ q => ?_
 obtain ⟨rfl,rfl⟩:=q
 have at1:(s.heap.push { cls:=.type "list",data:=.seq #[] }).get? s.heap.objs.size = some { cls:=.type "list",data:=.seq #[] }:=Heap.get?_push_size _ rfl
 refine ⟨⟨_,at1,rfl⟩,PySem.F.args_list_init_2 _ _, ?_⟩
 change wpAny _ _ (do let old ← Builtin.List.listItems (.ref s.heap.objs.size); Builtin.List.listUpdate (.ref s.heap.objs.size) (fun _ => #[]); letGo old.toList.reverse; Builtin.List.listExtendWith (.ref s.heap.objs.size) (.ref z) .none) _ _ _
 refine wpAny_bind ?_
 unfold Builtin.List.listItems
 refine wpAny_bind (wpAny_seqItems at1 rfl (wpAny_pure ?_))
 change wpAny _ _ (updateSeq s.heap.objs.size (fun _ => #[]) >>= fun _ => letGo (#[]:Array Value).toList.reverse >>= fun _ => Builtin.List.listExtendWith (.ref s.heap.objs.size) (.ref z) .none) _ _ _
 refine wpAny_bind (wpAny_updateSeq at1 rfl ?_)
 have at2:=Heap.get?_update_self (Obj.mapSeq (fun _ => (#[]:Array Value))) at1 rfl
 have oth:∀ b o,s.heap.get? b = some o→((s.heap.push { cls:=.type "list",data:=.seq #[] }).update s.heap.objs.size (Obj.mapSeq (fun _ => (#[]:Array Value)))).get? b = some o :=
  fun b o e => (Heap.get?_update_other _ _ (Ne.symm (lt e))).trans (pu e)
 refine wpAny_bind (wpAny_letGo ?_)
 refine extend (A:=A.in1) hh D hS .none hn ⟨.inl (oth _ _ hz),oth _ _ hTI,⟨a,b,oth _ _ hTO⟩,h1.at fun o e => oth _ o e,h2.at fun o e => oth _ o e,hl1.at fun o e => oth _ o e,hl2.at fun o e => oth _ o e⟩ at2 fun h' tk acc c as k1 k2 k3 k4 k5 => ?_
 refine ⟨rfl,fin h' tk acc c as (fun b o q e => k1 b o (fun m => ?_) (oth b o e)) k2 k3 ?_ k5⟩
 ·rcases List.mem_cons.mp m with m | m
  ·exact lt e m
  ·exact q m
 ·have e:((s.heap.push { cls:=.type "list",data:=.seq #[] }).update s.heap.objs.size (Obj.mapSeq (fun _ => (#[]:Array Value)))).objs.size = s.heap.objs.size + 1:=by rw [Heap.size_update,Heap.size_push]
  rw [← e]; exact k4
end
end ZipL
namespace L2
open PySem PySem.Spec PyProof.Rows
section
variable {X:Cx} {pins:List (Addr × Obj)} {σ:St} {H H':Hp} {s:Shared} {h':Heap}
theorem Zo.lays {t':Nat} (I:Zo X pins σ H s) (k:∀ b u,s.heap.get? b = some u→h'.get? b = some u) (old:∀ b,b < s.heap.objs.size→H' b = H b)
  (new:∀ b o,s.heap.objs.size ≤ b→H' b = some o→Vm X.prog X.w H' h' b o):Zo X pins σ H' { s with heap:=h',toks:=t' }:=by
 have up:∀ b o,H b = some o→H' b = some o:=fun b o e => by rw [old b (I.hok.lt e)]; exact e
 refine I.un ⟨fun b o e _ _ _ => k b o e,fun b o e _ _ _ => ⟨o.slots,k b o e⟩,fun b o e n _ => by rw [old b (Heap.lt_size e)]; exact n,fun b o e _ => ⟨o,k b o e⟩,fun b xs e => up b _ e,fun b o u e => up b _ e,fun b ps e => ⟨#[],by rw [up b _ e]; simp⟩⟩ fun b o e => ?_
 by_cases hb:b < s.heap.objs.size
 ·rw [old b hb] at e
  exact (I.hok b o e).stay (fun c u _ q => k c u q) (fun c q => up c _ q) fun c xs q => up c _ q
 ·exact new b o (Nat.le_of_not_lt hb) e
end
def AtPairs (H:Hp):List Addr→List V→List V→Prop
 | [],xs,ys => xs = [] ∨ ys = []
 | a :: as,xs,ys => ∃ x xr y yr,xs = x :: xr∧ys = y :: yr∧H a = some (.tup [x,y])∧AtPairs H as xr yr
theorem AtPairs.of {H:Hp}:∀ {as:List Addr} {xs ys:List V},as.length = min xs.length ys.length→(∀ (j:Nat) (a:Addr),as[j]? = some a→∃ x y,xs[j]? = some x∧ys[j]? = some y∧H a = some (.tup [x,y]))→AtPairs H as xs ys
 | [],xs,ys,hl,_ => by
  cases xs with
  | nil => exact .inl rfl
  | cons x xr =>
   cases ys with
   | nil => exact .inr rfl
   | cons y yr => simp at hl
 | a :: as,xs,ys,hl,h => by
  cases xs with
  | nil => simp at hl
  | cons x xr =>
   cases ys with
   | nil => simp at hl
   | cons y yr =>
    obtain ⟨x',y',e1,e2,e3⟩:=h 0 a rfl
    simp only [List.getElem?_cons_zero,Option.some.injEq] at e1 e2
    subst e1 e2
    refine ⟨x,xr,y,yr,rfl,rfl,e3,AtPairs.of (by simp only [List.length_cons] at hl; omega) fun j b e => ?_⟩
    obtain ⟨x'',y'',q1,q2,q3⟩:=h (j + 1) b (by simpa using e)
    exact ⟨x'',y'',by simpa using q1,by simpa using q2,q3⟩
def layP (H:Hp) (n:Nat) (l:Addr) (as:List Addr) (xs ys:List V):Hp:=fun b =>
 if b < n then H b else if b = l then some (.lst (as.map V.ref)) else if b ∈ as then some (.tup [xs.getD (as.idxOf b) .non,ys.getD (as.idxOf b) .non]) else none
theorem same_ix {as:List Addr} {i j:Nat} {c:Addr} (r:as.Pairwise (· < ·)) (h:as[i]? = some c) (h':as[j]? = some c):i = j:=by
 obtain ⟨h1,e1⟩:=List.getElem?_eq_some_iff.mp h
 obtain ⟨h2,e2⟩:=List.getElem?_eq_some_iff.mp h'
 have q:=List.pairwise_iff_getElem.mp r
 rcases Nat.lt_trichotomy i j with z | z | z
 ·have:=q i j h1 h2 z
  rw [e1,e2] at this
  exact absurd this (Nat.lt_irrefl _)
 ·exact z
 ·have:=q j i h2 h1 z
  rw [e1,e2] at this
  exact absurd this (Nat.lt_irrefl _)
theorem ix_same {as:List Addr} {j:Nat} {c:Addr} (r:as.Pairwise (· < ·)) (h:as[j]? = some c):as.idxOf c = j:=by
 have m:c ∈ as:=List.mem_of_getElem? h
 have hl:=List.idxOf_lt_length_of_mem m
 exact same_ix r (by rw [List.getElem?_eq_getElem hl,List.getElem_idxOf hl]) h
theorem vals_at:∀ {xs:List V} {us:List Value} {j:Nat} {u:Value},Z2 xs us→us[j]? = some u→Z6 (xs.getD j .non) u
 | _,_,_,_,.nil,e => by simp at e
 | _,_,0,_,.cons r _,e => by simp at e; subst e; exact r
 | _,_,j + 1,_,.cons _ t,e => by
  have:=vals_at (j:=j) t (by simpa using e)
  simpa using this
theorem vals_refs:∀ as:List Addr,Z2 (as.map V.ref) (as.map Value.ref)
 | [] => .nil
 | a :: as => .cons rfl (vals_refs as)
def tZip (K:W.Frag) (t:TA):TE:=fun σ H Q => t σ H fun vs H1 => ∃ p q xs ys,vs = [.ref p,.ref q]∧Ym K H1 p xs∧Ym K H1 q ys ∧
 ∀ (l:Addr) (as:List Addr) (H':Hp),H1 l = none→Zb H1 H'→H' l = some (.lst (as.map V.ref))→AtPairs H' as xs ys→Q (.ref l) H'
section
variable {X:Cx} {x y:Str} {p p2 pos pos2:Pos} {a b:Expr} {t:TA}
theorem pe_listZip (hc:X.calm = true) (hg:Gl X "list") (hm:X.mg "list" = none) (hgz:Gl X "zip") (hmz:X.mg "zip" = none) (ha:PA X [a,b] t)
  (he:starEach [.Call (.Name "zip" p2) [a,b] [] pos2] X.env = [(false,eval (.Call (.Name "zip" p2) [a,b] [] pos2) X.env)]:=by rfl)
  (he2:starEach [a,b] X.env = (false,eval a X.env) :: starEach [b] X.env:=by rfl) (hpl:(backTo pos2 (starEach [b] X.env)).any (·.1) = false:=by rfl) :
  PE X (.Call (.Name "list" p) [.Call (.Name "zip" p2) [a,b] [] pos2] [] pos) (tZip X.K t):=by
 intro pins s σ H Q I h
 refine wpAny_Call_Name_kw (V7 I hg hm (by decide +kernel:bootBuiltins "list" = some (.type "list")) ?_ (by decide) (by decide))
 refine callWith_type1 ?_ he rfl
 rw [he]
 change wpAny _ _ (spliced ((false,eval (.Call (.Name "zip" p2) [a,b] [] pos2) X.env) :: [])) _ _ s
 refine Calls.spliced_cons ?_
 refine wpAny_Call_Name_kw (V7 I hgz hmz (by decide +kernel:bootBuiltins "zip" = some (.type "zip")) ?_ (by decide) (by decide))
 refine callWith_type1 (Y9 (ha pos2 pins s σ H _ I h) fun us s1 ⟨vs,H1,I1,r1,q1⟩ => ?_) he2 hpl
 obtain ⟨l1,l2,xs,ys,rfl,hx,hy,q⟩:=q1
 obtain ⟨u1,u2,rfl,e1,e2⟩:=vals2 r1
 cases e1
 cases e2
 obtain ⟨is1,v1,pl1,z1⟩:=I1.list hx
 obtain ⟨is2,v2,pl2,z2⟩:=I1.list hy
 have n1:l1 < s1.heap.objs.size:=by obtain ⟨_,e,_⟩:=pl1.isList; exact Heap.lt_size e
 have n2:l2 < s1.heap.objs.size:=by obtain ⟨_,e,_⟩:=pl2.isList; exact Heap.lt_size e
 refine call_zip_2 pl1.isList pl2.isList fun h2 b1 b2 b3 b4 b5 b6 k2 => ?_
 refine Calls.spliced_nil ?_
 refine ZipL.call_list (s:={ s1 with heap:=h2 }) (I1.ok.hd hc) (zipApart_new n1 n2) (by rw [List.size_toArray, ← v1.length]; exact z1) b1 b2 b3 b4 b5 (pl1.isList.at fun o e => k2 _ o e) (pl2.isList.at fun o e => k2 _ o e) fun h3 tk acc cc as k3 at3 al mk hacc => ?_
 dsimp only at at3 mk k3
 rw [b6] at at3 mk
 have kk:∀ c o,s1.heap.get? c = some o→h3.get? c = some o:=fun c o e => by
  refine k3 c o (fun m => ?_) (k2 c o e)
  simp only [List.mem_cons,List.not_mem_nil,or_false] at m
  rcases m with m | m | m | m
  ·exact Nat.ne_of_lt (Nat.lt_of_lt_of_le (Heap.lt_size e) (Nat.le_add_right _ _)) m
  ·exact Nat.ne_of_lt (Nat.lt_of_lt_of_le (Heap.lt_size e) (Nat.le_add_right _ _)) m
  ·exact Nat.ne_of_lt (Heap.lt_size e) m
  ·exact Nat.ne_of_lt (Nat.lt_of_lt_of_le (Heap.lt_size e) (Nat.le_add_right _ _)) m
 have lz:as.length ≤ sizeLine:=by
  rw [al]
  exact Nat.le_trans (Nat.min_le_left _ _) (by rw [List.size_toArray, ← v1.length]; exact z1)
 have new:∀ c o,s1.heap.objs.size ≤ c→layP H1 s1.heap.objs.size (s1.heap.objs.size + 5) as xs ys c = some o→Vm X.prog X.w (layP H1 s1.heap.objs.size (s1.heap.objs.size + 5) as xs ys) h3 c o:=fun c o hc' e => by
  unfold layP at e
  rw [if_neg (Nat.not_lt_of_le hc')] at e
  by_cases hl:c = s1.heap.objs.size + 5
  ·rw [if_pos hl] at e
   cases e
   refine ⟨by rw [List.length_map]; exact lz,acc.toList,cc, ?_, ?_⟩
   ·rw [hacc]
    exact vals_refs as
   ·rw [hl]
    exact at3
  ·rw [if_neg hl] at e
   by_cases hm':c ∈ as
   ·rw [if_pos hm'] at e
    cases e
    obtain ⟨j,hj⟩:=List.mem_iff_getElem?.mp hm'
    obtain ⟨x,y,g1,g2,g3⟩:=mk.pairs j c hj
    rw [ix_same mk.rise hj]
    refine ⟨by show 2 ≤ sizeLine; decide,[x,y],.cons (vals_at v1 (by simpa using g1)) (.cons (vals_at v2 (by simpa using g2)) .nil),⟨_,g3,rfl,_,rfl⟩⟩
   ·rw [if_neg hm'] at e
    cases e
 have J:=I1.lays (H':=layP H1 s1.heap.objs.size (s1.heap.objs.size + 5) as xs ys) (t':=tk) kk (fun c hc' => by unfold layP; rw [if_pos hc']) new
 have nl:¬ (s1.heap.objs.size + 5 < s1.heap.objs.size):=Nat.not_lt_of_le (Nat.le_add_right _ _)
 refine ⟨.ref (s1.heap.objs.size + 5),_,J,by rw [b6]; rfl,q _ as _ (I1.hok.fresh (Nat.le_add_right _ _)) (fun c o e => ?_) ?_ (AtPairs.of ?_ fun j a hj => ?_)⟩
 ·unfold layP
  rw [if_pos (I1.hok.lt e)]
  exact e
 ·unfold layP
  rw [if_neg nl,if_pos rfl]
 ·rw [al,List.size_toArray,List.size_toArray,v1.length,v2.length]
 ·have ab:=mk.above a (List.mem_of_getElem? hj)
  obtain ⟨x,y,g1,g2,g3⟩:=mk.pairs j a hj
  have c1:j < xs.length:=by rw [v1.length]; have:=(Array.getElem?_eq_some_iff.mp g1).1; simpa using this
  have c2:j < ys.length:=by rw [v2.length]; have:=(Array.getElem?_eq_some_iff.mp g2).1; simpa using this
  refine ⟨xs[j],ys[j],List.getElem?_eq_getElem c1,List.getElem?_eq_getElem c2, ?_⟩
  unfold layP
  have a1:s1.heap.objs.size + 5 < a:=Nat.lt_of_lt_of_le (Nat.lt_succ_self _) ab
  rw [if_neg (Nat.not_lt_of_le (Nat.le_trans (Nat.le_add_right _ _) (Nat.le_of_lt a1))),if_neg (Nat.ne_of_gt a1),if_pos (List.mem_of_getElem? hj),ix_same mk.rise hj,List.getD_eq_getElem?_getD,List.getD_eq_getElem?_getD,List.getElem?_eq_getElem c1,List.getElem?_eq_getElem c2]
  rfl
theorem call_sumI (hc:X.calm = true):CallR X (.builtin "sum") (fun xs H Q => ∃ (p:Addr) (ns:List Int),xs = [.ref p]∧Ym X.K H p (ns.map V.int)∧Q (.int ns.sum) H):=by
 intro pins s σ H xs us Q I r h
 obtain ⟨p,ns,rfl,hq,q⟩:=h
 obtain ⟨u,rfl,rx⟩:=vals1 r
 cases rx
 obtain ⟨its,rv,pl,hz⟩:=I.list hq
 have hi:=intsAre_of rv
 obtain ⟨zs,e⟩:=hi.allInts.items
 have en:(zs.toList.map (·.1)) = ns:=by
  have a:=hi.numsOf
  have b:=nums_intItems zs
  rw [← e] at b
  exact b.symm.trans a
 refine sum_intListG (xs:=zs) (I.ok.hd hc) (by rw [← e]; exact pl.isList) fun h' tk t' hk => ?_
 rw [preSum_eq,List.take_of_length_le (by simp),en]
 exact ⟨.int ns.sum,H,I.kept hk,⟨t',rfl⟩,q⟩
theorem strsAre_of {ss:List Str}:∀ {us:List Value},Z2 (ss.map V.str) us→StrsAre us ss:=by
 induction ss with
 | nil => intro us r; cases r; exact .nil
 | cons x xs ih =>
  intro us r
  cases r with
  | cons e t =>
   obtain ⟨tk,rfl⟩:=e
   exact .cons x tk (ih t)
def rJoin (K:W.Frag):V→List V→Hp→VK→Prop:=fun x vs H Q => ∃ (sep:Str) (p:Addr) (ss:List Str),x = .str sep∧vs = [.ref p]∧Ym K H p (ss.map V.str)∧(ss.map (·.length)).sum + ss.length * sep.length ≤ 16777216∧Q (.str (Txt.join sep ss)) H
theorem mt_join:MtM X "str.join" (rJoin X.K):=by
 intro pins s σ H x vs v us Q I rx rv h
 obtain ⟨sep,p,ss,rfl,rfl,hq,hz,q⟩:=h
 obtain ⟨t,rfl⟩:=rx
 obtain ⟨u,rfl,ru⟩:=rv.one
 cases ru
 obtain ⟨its,r,pl,_⟩:=I.list hq
 exact join_list pl.isList (strsAre_of r) hz fun t' k => ⟨.str _,H,I.tok _,⟨t',rfl⟩,q⟩
end
def Fn (P:Program) (w:World) (K:W.Frag) (mg:Str→Option Value) (base:Heap) (k:Nat) (x:Str) (ps:List Str) (sp:Sp):Prop :=
 ∃ f fd,Yy P w K mg base Um k f fd ps sp∧Binds K fd ps []∧W.keepIn K (.ref f) = true∧mg x = some (.ref f)
section
variable {X:Cx} {k:Nat} {x:Str} {ps:List Str} {sp:Sp} {p pos:Pos} {e:Expr} {es:List Expr} {t:TA}
theorem Zw (G:Fn X.prog X.w X.K X.mg X.base k x ps sp) (hr:Vl k X.A) (hg:Gl X x) (ha:PA X (e :: es) t) (hdb:(x == ("__debug__" : Str)) = false:=by decide)
  (he:starEach (e :: es) X.env = (false,eval e X.env) :: starEach es X.env:=by rfl) (hpl:(backTo pos (starEach es X.env)).any (·.1) = false:=by rfl) :
  PE X (.Call (.Name x p) (e :: es) [] pos) (tCall sp [] E0 t):=by
 obtain ⟨f,fd,F,b,kp,m⟩:=G
 exact pe_call F hr hg m kp b .nil pass0 ha hdb he hpl
theorem Yy.any {P:Program} {w:World} {K:W.Frag} {mg:Str→Option Value} {base:Heap} {CX:CXT} {k:Nat} {f:Addr} {fd:FuncData} {ps:List Str} {ι:Type} {C:ι→Prop} {sp:ι→Sp} (h:∀ i,C i→Yy P w K mg base CX k f fd ps (sp i)) :
  Yy P w K mg base CX k f fd ps (fun vs H Q E => ∃ i,C i∧sp i vs H Q E) :=
 ⟨fun vs H Q E ⟨i,c,q⟩ => (h i c).len vs H Q E q,fun A outer s H args us vs Q E hr he hb hv ⟨i,c,q⟩ => (h i c).run A outer s H args us vs Q E hr he hb hv q⟩
end
def Up (K:W.Frag) (H H':Hp):Prop:=∀ a xs,Z9 K H a xs→Z9 K H' a xs
theorem Up.refl {K:W.Frag} (H:Hp):Up K H H:=fun _ _ h => h
theorem Up.trans {K:W.Frag} {H H1 H2:Hp} (a:Up K H H1) (b:Up K H1 H2):Up K H H2:=fun c xs h => b c xs (a c xs h)
theorem Zb.up {K:W.Frag} {H H':Hp} (e:Zb H H'):Up K H H':=fun a xs h => by
 rcases h with (h | ⟨o,h⟩) | h
 ·exact .inl (.inl (e _ _ h))
 ·exact .inl (.inr ⟨o,e _ _ h⟩)
 ·exact .inr h
theorem Zb.put {H H1:Hp} {p:Addr} {o:HO} (e:Zb H H1) (h:H p = none):Zb H (Z4 H1 p o):=fun b u q => by
 rw [Zh (Zl q h)]; exact e b u q
mutual
def noL:D→Bool
 | .tup xs => noLs xs
 | .lst _ => false
 | _ => true
def noLs:List D→Bool
 | [] => true
 | d :: ds => noL d && noLs ds
end
mutual
theorem Yv.up {K:W.Frag} {H H':Hp} (u:Up K H H'):∀ (d:D) (v:V),noL d = true→Yv K H d v→Yv K H' d v
 | .non,v,_,h => h
 | .bl b,v,_,h => h
 | .int i,v,_,h => h
 | .str x,v,_,h => h
 | .tup ds,v,n,h => by
  obtain ⟨a,vs,e,q,r⟩:=h
  exact ⟨a,vs,e,u a vs q,Zn.up u ds vs (by simpa [noL] using n) r⟩
 | .lst ds,v,n,h => by simp [noL] at n
theorem Zn.up {K:W.Frag} {H H':Hp} (u:Up K H H'):∀ (ds:List D) (vs:List V),noLs ds = true→Zn K H ds vs→Zn K H' ds vs
 | [],vs,_,h => h
 | d :: ds,vs,n,h => by
  obtain ⟨v,r,e,q,t⟩:=h
  have n':noL d = true∧noLs ds = true:=by simpa [noLs] using n
  exact ⟨v,r,e,Yv.up u d v n'.1 q,Zn.up u ds r n'.2 t⟩
end
theorem noLs_all:∀ {ds:List D},(∀ d ∈ ds,noL d = true)→noLs ds = true
 | [],_ => rfl
 | d :: ds,h => by
  simp only [noLs,Bool.and_eq_true]
  exact ⟨h d List.mem_cons_self,noLs_all fun e m => h e (List.mem_cons_of_mem _ m)⟩
theorem noLs_mem:∀ {ds:List D} {d:D},noLs ds = true→d ∈ ds→noL d = true
 | e :: ds,d,h,m => by
  have h':noL e = true∧noLs ds = true:=by simpa [noLs] using h
  rcases List.mem_cons.mp m with rfl | m
  ·exact h'.1
  ·exact noLs_mem h'.2 m
theorem Zn.append {K:W.Frag} {H:Hp}:∀ {ds es:List D} {vs ws:List V},Zn K H ds vs→Zn K H es ws→Zn K H (ds ++ es) (vs ++ ws)
 | [],es,vs,ws,h,h' => by
  have e:vs = []:=h
  subst e
  exact h'
 | d :: ds,es,vs,ws,h,h' => by
  obtain ⟨v,r,e,q,t⟩:=h
  subst e
  exact ⟨v,r ++ ws,rfl,q,Zn.append t h'⟩
theorem Zn.one {K:W.Frag} {H:Hp} {d:D} {v:V} (h:Yv K H d v):Zn K H [d] [v]:=⟨v,[],rfl,h,rfl⟩
theorem Zn.two {K:W.Frag} {H:Hp} {d e:D} {v u:V} (h:Yv K H d v) (h':Yv K H e u):Zn K H [d,e] [v,u]:=⟨v,[u],rfl,h,u,[],rfl,h',rfl⟩
theorem Zn.take {K:W.Frag} {H:Hp}:∀ {ds:List D} {vs:List V} (n:Nat),Zn K H ds vs→Zn K H (ds.take n) (vs.take n)
 | ds,vs,0,_ => rfl
 | [],vs,n + 1,h => by
  have e:vs = []:=h
  subst e
  rfl
 | d :: ds,vs,n + 1,h => by
  obtain ⟨v,r,e,q,t⟩:=h
  subst e
  exact ⟨v,r.take n,rfl,q,Zn.take n t⟩
def Yn:List D→List D→List D
 | a :: as,b :: bs => .tup [a,b] :: Yn as bs
 | _,_ => []
theorem Zn.pairs {K:W.Frag} {H:Hp}:∀ {as:List Addr} {xs ys:List V} {ds es:List D},AtPairs H as xs ys→Zn K H ds xs→Zn K H es ys→Zn K H (Yn ds es) (as.map V.ref)
 | [],xs,ys,ds,es,h,h1,h2 => by
  rcases (show xs = [] ∨ ys = [] from h) with e | e
  ·subst e
   cases ds with
   | nil => rfl
   | cons d ds => obtain ⟨_,_,e,_⟩:=h1; cases e
  ·subst e
   cases es with
   | nil => cases ds <;> rfl
   | cons d es => obtain ⟨_,_,e,_⟩:=h2; cases e
 | a :: as,xs,ys,ds,es,h,h1,h2 => by
  obtain ⟨x,xr,y,yr,rfl,rfl,ha,ht⟩:=h
  cases ds with
  | nil => cases (show x :: xr = [] from h1)
  | cons d ds =>
   cases es with
   | nil => cases (show y :: yr = [] from h2)
   | cons e es =>
    obtain ⟨_,_,q,i1,t1⟩:=h1
    cases q
    obtain ⟨_,_,q,i2,t2⟩:=h2
    cases q
    exact ⟨.ref a,as.map V.ref,rfl,⟨a,_,rfl,Z9.of ha,Zn.two i1 i2⟩,Zn.pairs ht t1 t2⟩
def Feed (H:Hp) (l:Addr):Prop:=∃ a b c d:Int,H l = some (.lst [.int a,.int b,.int c,.int d])
structure Vn (l:Addr) (H H':Hp):Prop where
 keep:∀ x o,x ≠ l→H x = some o→H' x = some o
 feed:Feed H' l
theorem Vn.refl {l:Addr} {H:Hp} (f:Feed H l):Vn l H H:=⟨fun _ _ _ h => h,f⟩
theorem Vn.trans {l:Addr} {H H1 H2:Hp} (a:Vn l H H1) (b:Vn l H1 H2):Vn l H H2:=⟨fun x o n h => b.keep x o n (a.keep x o n h),b.feed⟩
theorem Vn.free {l:Addr} {H H':Hp} (a:Vn l H H') (f:Feed H l) {p:Addr} (h:H' p = none):H p = none:=by
 cases q:H p with
 | none => rfl
 | some o =>
  by_cases e:p = l
  ·obtain ⟨_,_,_,_,z⟩:=a.feed
   rw [e,z] at h
   cases h
  ·rw [a.keep p o e q] at h
   cases h
theorem Feed.put {l p:Addr} {H:Hp} {o:HO} (f:Feed H l) (h:p ≠ l):Feed (Z4 H p o) l:=by
 obtain ⟨a,b,c,d,e⟩:=f
 exact ⟨a,b,c,d,by rw [Zh h.symm]; exact e⟩
theorem Feed.ne {l p:Addr} {H:Hp} (f:Feed H l) (h:H p = none):p ≠ l:=fun e => by
 obtain ⟨a,b,c,d,q⟩:=f
 rw [e,q] at h
 cases h
theorem Vn.put {l p:Addr} {H H':Hp} {o:HO} (a:Vn l H H') (n:p ≠ l) (h:H p = none):Vn l H (Z4 H' p o) :=
 ⟨fun x u q e => by rw [Zh (Zl e h)]; exact a.keep x u q e,a.feed.put n⟩
theorem Vn.lay {l p:Addr} {H H':Hp} {o:HO} (a:Vn l H H') (f:Feed H l) (h:H' p = none):Vn l H (Z4 H' p o):=a.put (a.feed.ne h) (a.free f h)
theorem Vn.same {l:Addr} {H H1 H2:Hp} (a:Vn l H H1) (b:Zb H1 H2):Vn l H H2 :=
 ⟨fun x o n h => b _ _ (a.keep x o n h),let ⟨x,y,z,u,e⟩:=a.feed; ⟨x,y,z,u,b _ _ e⟩⟩
theorem Vn.up {K:W.Frag} {l:Addr} {H H':Hp} (a:Vn l H H') (f:Feed H l):Up K H H':=fun c xs h => by
 have ne:∀ o,H c = some o→(∀ ys,o ≠ .lst ys)→c ≠ l:=fun o e n q => by
  obtain ⟨_,_,_,_,z⟩:=f
  rw [q,z] at e
  cases e
  exact n _ rfl
 rcases h with (h | ⟨o,h⟩) | h
 ·exact .inl (.inl (a.keep _ _ (ne _ h fun _ z => nomatch z) h))
 ·exact .inl (.inr ⟨o,a.keep _ _ (ne _ h fun _ z => nomatch z) h⟩)
 ·exact .inr h
theorem Yk {K:W.Frag} {H:Hp} {p:Addr} {o:HO} (h:H p = none):Up K H (Z4 H p o):=Zb.up (fun b u q => by rw [Zh (Zl q h)]; exact q)
theorem up_set {K:W.Frag} {H:Hp} {p:Addr} {o:HO} {ys:List V} (h:H p = some (.lst ys)):Up K H (Z4 H p o):=fun c xs q => by
 have ne:∀ u,H c = some u→(∀ ys,u ≠ .lst ys)→c ≠ p:=fun u e n z => by
  rw [z,h] at e
  cases e
  exact n _ rfl
 rcases q with (q | ⟨u,q⟩) | q
 ·exact .inl (.inl (by rw [Zh (ne _ q fun _ z => nomatch z)]; exact q))
 ·exact .inl (.inr ⟨u,by rw [Zh (ne _ q fun _ z => nomatch z)]; exact q⟩)
 ·exact .inr q
structure Good where
 whole:Int→Prop
 text:Str→Prop
 name:Str→Prop
 num:Int→Prop
 names:List Str→Prop
 nums:List Int→Prop
def Itm (G:Good):Nat→D→Prop
 | 0,_ => False
 | k + 1,d => (∃ n,d = .tup [.str "whole",.int n]∧G.whole n) ∨ (∃ x,d = .tup [.str "text",.str x]∧G.text x) ∨
   (∃ n e,d = .tup [.str "arm",.int n,e]∧G.num n∧Itm G k e) ∨ (∃ es,d = .tup [.str "row",.tup es]∧es.length ≤ 3∧∀ e ∈ es,Itm G k e) ∨
   (∃ ks es,d = .tup [.str "map",.tup (Yn (ks.map D.str) es)]∧ks.length = es.length∧es.length ≤ 3∧G.names ks∧∀ e ∈ es,Itm G k e) ∨
   (∃ ks es,d = .tup [.str "rec",.tup (Yn (ks.map D.int) es)]∧ks.length = es.length∧es.length ≤ 3∧G.nums ks∧∀ e ∈ es,Itm G k e)
theorem noLs_pairs:∀ {as bs:List D},(∀ d ∈ as,noL d = true)→(∀ d ∈ bs,noL d = true)→noLs (Yn as bs) = true
 | [],_,_,_ => by simp [Yn,noLs]
 | _ :: _,[],_,_ => by simp [Yn,noLs]
 | a :: as,b :: bs,h1,h2 => by
  have r:=noLs_pairs (as:=as) (bs:=bs) (fun d m => h1 d (List.mem_cons_of_mem _ m)) fun d m => h2 d (List.mem_cons_of_mem _ m)
  simp only [Yn,noLs,noL,h1 a List.mem_cons_self,h2 b List.mem_cons_self,r,Bool.and_self]
theorem Itm.noL {G:Good}:∀ {k:Nat} {d:D},Itm G k d→noL d = true
 | 0,_,h => h.elim
 | k + 1,d,h => by
  rcases h with ⟨n,rfl,_⟩ | ⟨x,rfl,_⟩ | ⟨n,e,rfl,_,i⟩ | ⟨es,rfl,_,i⟩ | ⟨ks,es,rfl,_,_,_,i⟩ | ⟨ks,es,rfl,_,_,_,i⟩
  ·rfl
  ·rfl
  ·simp only [L2.noL,noLs,Bool.true_and,Bool.and_true]; exact Itm.noL i
  ·simp only [L2.noL,noLs,Bool.true_and,Bool.and_true]; exact noLs_all fun e m => Itm.noL (i e m)
  ·simp only [L2.noL,noLs,Bool.true_and,Bool.and_true]
   refine noLs_pairs (fun d m => ?_) fun e m => Itm.noL (i e m)
   obtain ⟨x,_,rfl⟩:=List.mem_map.mp m
   rfl
  ·simp only [L2.noL,noLs,Bool.true_and,Bool.and_true]
   refine noLs_pairs (fun d m => ?_) fun e m => Itm.noL (i e m)
   obtain ⟨x,_,rfl⟩:=List.mem_map.mp m
   rfl
theorem Itm.noLs {G:Good} {k:Nat} {ds:List D} (h:∀ d ∈ ds,Itm G k d):noLs ds = true:=noLs_all fun d m => (h d m).noL
section
variable {X:Cx}
theorem Zy (i:Nat) {x:Str} {e:Expr} {te:TE} {pos pos':Pos} (hN:X.N.Nodup) (hi:X.N[i]? = some x) (hx:Loc X.env.scope x) (he:PE X e te)
  (hs:swapsWith e (some (.Name x pos')) pos.line X.env = pure false:=by rfl) (hf:X.fn x = true ∨ X.env.scope.names.lookup x = some .local:=by first | exact .inl rfl | exact .inr rfl | assumption) :
  PS X (.Assign [.Name x pos'] e pos) (tAsg te (gName i)):=ps_set hN hi hx he hs hf
theorem Z0 (i:Nat) {x:Str} {pos:Pos} (hN:X.N.Nodup) (hi:X.N[i]? = some x) (hx:Loc X.env.scope x)
  (hf:X.fn x = true ∨ X.env.scope.names.lookup x = some .local:=by first | exact .inl rfl | exact .inr rfl | assumption):PG X (.Name x pos) (gName i):=pg_name hN hi hx hf
theorem Uk {x:Str} {C:Addr} {pos:Pos} (hg:Gl X x) (hm:X.mg x = some (.ref C)) (hd:(x == ("__debug__" : Str)) = false:=by decide):PE X (.Name x pos) (tC (.ref C)):=pe_glob hg hm rfl hd
theorem pe_bltnT {T:String} {x:Str} {pos:Pos} (hg:Gl X x) (hm:X.mg x = none) (hv:bootBuiltins x = some (.type T)) (hn:x ≠ "__name__" := by decide) (hd:(x == ("__debug__" : Str)) = false:=by decide) :
  PE X (.Name x pos) (tC (.ty T)):=pe_bltn hg hm hv rfl hn hd
theorem Vw (NX:List Str) (outer:Scope) (N:List Str) (fr:List (Option Nat)) {scope:Scope} {tg elt iter:Expr} {ifs:List Expr} {pos:Pos} {wi:TI} {g:DG} {tt:DT} {te:DE} (hc:X.calm = true) (hi:PI X tg iter wi)
  (C:CompFr X NX outer scope N fr) (hg:∀ fp s H,PG (Yu X scope N fp s H) tg (g fp s H)) (ht:∀ fp s H,PTs (Yu X scope N fp s H) ifs (tt fp s H)) (he:∀ fp s H,PE (Yu X scope N fp s H) elt (te fp s H))
  (hs:∀ x,foldedSetIterable iter X.env x = pure x:=by intro _; rfl):PE X (.ListComp elt [⟨tg,iter,ifs,0⟩] scope pos) (tComp wi fr g tt te):=pe_comp hc hi C hg ht he hs
theorem ps_setCompI (i:Nat) (NX:List Str) (outer:Scope) (N:List Str) (fr:List (Option Nat)) {scope:Scope} {tg elt iter:Expr} {ifs:List Expr} {pos pos' pos2:Pos} {wi:TI} {g:DG} {tt:DT} {te:DE} {x:Str} (hN:X.N.Nodup) (hix:X.N[i]? = some x)
  (hx:Loc X.env.scope x) (hc:X.calm = true) (hi:PI X tg iter wi) (C:CompFr X NX outer scope N fr) (hg:∀ fp s H,PG (Yu X scope N fp s H) tg (g fp s H)) (ht:∀ fp s H,PTs (Yu X scope N fp s H) ifs (tt fp s H))
  (he:∀ fp s H,PE (Yu X scope N fp s H) elt (te fp s H)) (hsw:swapsWith (.ListComp elt [⟨tg,iter,ifs,0⟩] scope pos) (some (.Name x pos')) pos2.line X.env = pure true:=by rfl)
  (hs:∀ x,foldedSetIterable iter X.env x = pure x:=by intro _; rfl) (hf:X.fn x = true ∨ X.env.scope.names.lookup x = some .local:=by first | exact .inl rfl | exact .inr rfl | assumption) :
  PS X (.Assign [.Name x pos'] (.ListComp elt [⟨tg,iter,ifs,0⟩] scope pos) pos2) (tAsg (tComp wi fr g tt te) (gName i)):=ps_setComp hN hix hx hc hi C hg ht he hsw hs hf
end
end L2
namespace DctE
open PySem PySem.SeqAt PySem.MeetsSeq
open PySem.AutoSeq1 (wpAny_loadPart')
end DctE
namespace L2
open PySem PySem.Spec PyProof.Rows
section
variable {X:Cx} {pins:List (Addr × Obj)} {σ:St} {H H':Hp} {s:Shared} {h':Heap}
theorem Zo.turnLay {t':Nat} {fp:List Addr} {a:Addr} {o:HO} (I:Zo X pins σ H s) (k:∀ b u,b ∉ fp→s.heap.get? b = some u→h'.get? b = some u) (hf:∀ b ∈ fp,FpOk X pins H b) (hp:s.heap.objs.size ≤ a) (new:Vm X.prog X.w (Z4 H a o) h' a o) :
  Zo X pins σ (Z4 H a o) { s with heap:=h',toks:=t' }:=by
 have hn:=I.hok.fresh hp
 have nf:∀ b u,H b = some u→b ∉ fp:=fun b u e m => by
  have z:=(hf b m).1
  rw [e] at z
  cases z
 have na:∀ b u,s.heap.get? b = some u→b ≠ a:=fun b u e => Nat.ne_of_lt (Nat.lt_of_lt_of_le (Heap.lt_size e) hp)
 refine I.call (g':=s.gens) (d':=s.drawn) (ch:=fp) ⟨fun b u e _ _ hx => k b u hx e,fun b u e _ _ hx => ⟨u.slots,k b u hx e⟩,fun b u e n _ => by rw [Zh (na b u e)]; exact n,fun b u e hx => ⟨u,k b u hx e⟩,
  fun b xs e => by rw [Zh (Zl e hn)]; exact e,fun b ob u e => by rw [Zh (Zl e hn)]; exact e,fun b ps e => ⟨#[],by rw [Zh (Zl e hn)]; simp [e]⟩⟩ (fun b u e => ?_) I.bare
  fun b hb => ⟨(hf b hb).2.2.2.1,(hf b hb).2.1,(hf b hb).2.2.2.2.1,(hf b hb).2.2.2.2.2⟩
 by_cases hb:b = a
 ·subst hb
  rw [Zq] at e
  cases e
  exact new
 ·rw [Zh hb] at e
  refine (I.hok b u e).stay (fun c v hc q => k c v ?_ q) (fun c q => by rw [Zh (Zl q hn)]; exact q) fun c xs q => by rw [Zh (Zl q hn)]; exact q
  rcases hc with z | z
  ·rw [z]; exact nf b u e
  ·exact nf c _ z
theorem Zo.turnL {t':Nat} {fp:List Addr} (I:Zo X pins σ H s) (k:∀ b u,b ∉ fp→s.heap.get? b = some u→h'.get? b = some u) (hf:∀ b ∈ fp,FpOk X pins H b) :
  Zo X pins σ H { s with heap:=h',toks:=t' }:=by
 have nf:∀ b u,H b = some u→b ∉ fp:=fun b u e m => by
  have z:=(hf b m).1
  rw [e] at z
  cases z
 refine I.call (g':=s.gens) (d':=s.drawn) (ch:=fp) ⟨fun b u e _ _ hx => k b u hx e,fun b u e _ _ hx => ⟨u.slots,k b u hx e⟩,fun b u e n _ => n,fun b u e hx => ⟨u,k b u hx e⟩,
  fun b xs e => e,fun b ob u e => e,fun b ps e => ⟨#[],by simp [e]⟩⟩ (fun b u e => ?_) I.bare
  fun b hb => ⟨(hf b hb).2.2.2.1,(hf b hb).2.1,(hf b hb).2.2.2.2.1,(hf b hb).2.2.2.2.2⟩
 refine (I.hok b u e).stay (fun c v hc q => k c v ?_ q) (fun c q => q) fun c xs q => q
 rcases hc with z | z
 ·rw [z]; exact nf b u e
 ·exact nf c _ z
end
section
variable {X:Cx} {pos:Pos}
theorem op_gt_str:OpR X (compareOp .Gt) (fun x y H Q => ∃ i j,x = .str i∧y = .str j∧Q (.bl (decide (j.cps.toList < i.cps.toList))) H):=by
 intro pins s σ H x y v u Q I rx ry h
 obtain ⟨i,j,rfl,rfl,q⟩:=h
 obtain ⟨t,rfl⟩:=rx
 obtain ⟨t',rfl⟩:=ry
 exact PySem.P.gt_str (Yb I q rfl)
end
def Its (x:Str):It:=⟨fun i _ => i < x.cps.size,fun i H v H' => H' = H∧∃ c,x.cps[i]? = some c∧v = .str ⟨#[c]⟩,fun i _ => x.cps.size ≤ i⟩
theorem turn_str {P:Program} {w:World} {K:W.Frag} {tg:Expr} (x:Str) (it:Addr) (T:String) (t:Tok) (hT:["enumerate","zip","dict_itemiterator","dict_reverseitemiterator","odict_iterator","itertools.zip_longest","itertools.pairwise"].contains T = false)
  (W:∀ A:Around,A.handled = none→Walks P w A it [it] [it] x.cps.size (SignAt x) (fun i h => h.IsStrIter it T x t i)) (hs:∀ (A:Around) (i:Nat) (s:Shared) (Q:Value→Shared→Prop) (E:Value→Shared→Prop),s.heap.IsStrIter it T x t i→Q (.ref it) s→wpAny (model P w) A (pyIter (.ref it)) Q E s)
  (hd:∀ (A:Around) (i:Nat) (s:Shared) (Q:Option Value→Shared→Prop) (E:Value→Shared→Prop),A.handled = none→x.cps.size ≤ i→s.heap.IsStrIter it T x t i→(∀ h' tk,(∀ b o,b ≠ it→s.heap.get? b = some o→h'.get? b = some o)→Q none { s with heap:=h',toks:=tk })→wpAny (model P w) A (pyNext (.ref it)) Q E s) :
  Turn P w K tg (Its x) [it] it (fun i h => h.IsStrIter it T x t i) where
 mem:=by simp
 obj:=fun i h st b hb => by
  have e:b = it:=by simpa using hb
  subst e
  obtain ⟨o,e,c,d⟩:=st
  exact ⟨o,e,fun v z => by rw [d] at z; cases z⟩
 keep:=fun i h h' st k => let ⟨o,ho,r⟩:=st; ⟨o,k it (by simp) o ho,r⟩
 item:=by
  intro X hP hw hK hc i pins s σ H E I hf st hg
  subst hP hw hK
  obtain ⟨f0,f1,f2,f3,f4,f5⟩:=hf it (by simp)
  refine (W X.A (I.ok.hd hc)).item i s _ _ hg st fun v h' tk hv st' kk => ?_
  obtain ⟨c,u,hc',rfl⟩:=hv
  have I1:Zo X pins σ H { s with heap:=h',toks:=tk }:=I.turned (fun b o hb e => kk b o (by simpa using hb) e) f0 f1 f3 f4 f5
  obtain ⟨o,e,c1,d⟩:=id st'
  exact ⟨_,rfl,go_of (s:={ s with heap:=h',toks:=tk }) e c1 d hT ⟨.str ⟨#[c]⟩,H,I1,⟨u,rfl⟩,⟨rfl,c,hc',rfl⟩,st',fun b hb => (hf b hb).1⟩⟩
 done:=by
  intro X hP hw hK hc i pins s σ H E I hf st hg
  subst hP hw hK
  obtain ⟨f0,f1,f2,f3,f4,f5⟩:=hf it (by simp)
  exact hd X.A i s _ _ (I.ok.hd hc) hg st fun h' tk eb => ⟨rfl,I.turned (fun b o hb e => eb b o hb e) f0 f1 f3 f4 f5⟩
 self:=fun A i s Q E st h => hs A i s Q E st h
def iStr (te:TE):TI:=fun σ H R => te σ H fun v H1 => ∃ x,v = .str x∧R (Its x) H1
section
variable {X:Cx} {tg l:Expr} {tl:TE}
theorem pi_str (hl:PE X l tl):PI X tg l (iStr tl):=by
 intro pins s σ H R I h
 refine Y9 (hl pins s σ H _ I h) fun v s1 ⟨v',H1,I1,r1,q1⟩ => ?_
 obtain ⟨x,rfl,q⟩:=q1
 obtain ⟨t,rfl⟩:=r1
 have fin:∀ b ∈ [s1.heap.objs.size],FpOk X pins H1 b:=fun b hb => by
  have e:b = s1.heap.objs.size:=by simpa using hb
  subst e
  exact I1.fpOk (Nat.le_refl _) (I1.hok.fresh (Nat.le_refl _))
 cases ha:x.cps.all (· < 128)
 ·refine wpAny_pyIter_wide ha ?_
  exact ⟨s1.heap.objs.size,[s1.heap.objs.size],_,_,H1,rfl,I1.kept (t':=s1.toks) fun b o e => Heap.get?_push_of_some _ e,turn_str x _ "str_iterator" t (by decide) (fun A hA => Walks.strWide hA _ x t) (fun A i s Q E st h => wpAny_pyIter_striter_wide st h)
   (fun A i s Q E hA hi st h => wpAny_pyNext_wide_end hA st (by simp [hi]) fun h' he => h h' s.toks fun b o hb e => he b o hb e),⟨_,Heap.get?_push_size _ rfl,rfl,rfl⟩,fin,q⟩
 ·refine wpAny_pyIter_ascii ha ?_
  exact ⟨s1.heap.objs.size,[s1.heap.objs.size],_,_,H1,rfl,I1.kept (t':=s1.toks) fun b o e => Heap.get?_push_of_some _ e,turn_str x _ "str_ascii_iterator" t (by decide) (fun A hA => Walks.strAscii hA _ x t) (fun A i s Q E st h => wpAny_pyIter_striter_ascii st h)
   (fun A i s Q E hA hi st h => wpAny_pyNext_ascii_end hA st (by simp [hi]) fun h' he => h h' s.toks fun b o hb e => he b o hb e),⟨_,Heap.get?_push_size _ rfl,rfl,rfl⟩,fin,q⟩
end
theorem comp_str {x:Str} {D:Addr} {g:TG} {tt:TT} {te:TE} {fin:Hp→Prop} {σ0:St} {H0:Hp} (Pv:Nat→List V→St→Hp→Prop) (h0:Pv 0 [] σ0 H0)
  (hq:∀ i ys σ H,i ≤ x.cps.size→Pv i ys σ H→H D = some (.lst ys))
  (hs:∀ i c ys σ H,x.cps[i]? = some c→Pv i ys σ H→g (.str ⟨#[c]⟩) σ H fun σ2 H2 => tt σ2 H2 fun ok H3 => if ok = true then te σ2 H3 fun y H4 => H4 D = some (.lst ys)∧ys.length < sizeLine∧Pv (i + 1) (ys ++ [y]) σ2 (Z4 H4 D (.lst (ys ++ [y]))) else Pv (i + 1) ys σ2 H3)
  (hd:∀ ys σ H,Pv x.cps.size ys σ H→fin H):∃ W:Nat→Nat→List V→St→Hp→Prop,(∃ m,W 0 m [] σ0 H0)∧CompW (Its x) g tt te D W fin:=by
 refine ⟨fun i m ys σ H => m = x.cps.size - i∧i ≤ x.cps.size∧Pv i ys σ H,⟨x.cps.size,by simp,Nat.zero_le _,h0⟩, ?_⟩
 rintro i m ys σ H ⟨rfl,hi,p⟩
 refine ⟨hq i ys σ H hi p, ?_⟩
 by_cases hlt:i < x.cps.size
 ·refine .inr ⟨hlt,Pv (i + 1),fun ys' σ' H' p' => ⟨x.cps.size - (i + 1),by omega,rfl,hlt,p'⟩,fun v H' y => ?_⟩
  obtain ⟨e,c,y,rfl⟩:=y
  subst e
  exact hs i c ys σ _ y p
 ·have e:i = x.cps.size:=by omega
  subst e
  exact .inl ⟨Nat.le_refl _,hd ys σ H p⟩
def Itz (K:W.Frag) (l1 l2:Addr):It :=
  ⟨fun i H => ∃ xs ys x y,Ym K H l1 xs∧Ym K H l2 ys∧xs[i]? = some x∧ys[i]? = some y,
   fun i H v H' => ∃ p x y,v = .ref p∧H p = none∧H' = Z4 H p (.tup [x,y])∧(∀ xs,Ym K H l1 xs→xs[i]? = some x)∧∀ ys,Ym K H l2 ys→ys[i]? = some y,
   fun i H => ∃ xs ys,Ym K H l1 xs∧Ym K H l2 ys∧(xs.length ≤ i ∨ ys.length ≤ i)⟩
theorem turn_zip {P:Program} {w:World} {K:W.Frag} {es:List Expr} {k:Nat} {pos:Pos} (z TI TO i1 i2 l1 l2:Addr) (D:ZipApart z TI TO i1 i2 l1 l2) :
  Turn P w K (.Tuple es k pos) (Itz K l1 l2) [z,TI,TO,i1,i2] z (fun i h => IsZip h z TI TO .none∧IsPair h TI (.ref i1) (.ref i2)∧(∃ a b,IsPair h TO a b)∧h.IsListIter i1 l1 i∧h.IsListIter i2 l2 i) where
 mem:=by simp
 obj:=fun i h st b hb => by
  obtain ⟨hz,hTI,⟨a,c,hTO⟩,⟨o1,e1,_,d1⟩,⟨o2,e2,_,d2⟩⟩:=st
  simp only [List.mem_cons,List.not_mem_nil,or_false] at hb
  rcases hb with rfl | rfl | rfl | rfl | rfl
  ·exact ⟨_,hz,fun v q => nomatch q⟩
  ·exact ⟨_,hTI,fun v q => nomatch q⟩
  ·exact ⟨_,hTO,fun v q => nomatch q⟩
  ·exact ⟨_,e1,fun v q => by rw [d1] at q; cases q⟩
  ·exact ⟨_,e2,fun v q => by rw [d2] at q; cases q⟩
 keep:=fun i h h' st hk => by
  obtain ⟨hz,hTI,⟨a,b,hTO⟩,h1,h2⟩:=st
  exact ⟨hk z (by simp) _ hz,hk TI (by simp) _ hTI,⟨a,b,hk TO (by simp) _ hTO⟩,h1.at fun o e => hk i1 (by simp) o e,h2.at fun o e => hk i2 (by simp) o e⟩
 item:=by
  intro X hP hw hK hc i pins s σ H E I hf st hg
  subst hP hw hK
  obtain ⟨xs,ys,x,y,q1,q2,g1,g2⟩:=hg
  obtain ⟨hz,hTI,⟨a,b,hTO⟩,h1,h2⟩:=st
  obtain ⟨is1,v1,pl1,z1⟩:=I.list q1
  obtain ⟨is2,v2,pl2,z2⟩:=I.list q2
  obtain ⟨u1,e1,r1⟩:=v1.get g1
  obtain ⟨u2,e2,r2⟩:=v2.get g2
  refine wpAny_pyNext_zip_item D hz hTI hTO h1 h2 pl1.isList pl2.isList (x:=u1) (y:=u2) (by simpa using e1) (by simpa using e2) fun h' a1 a2 a3 a4 a5 a6 hk => ?_
  refine ⟨_,rfl,wpAny_letOwnedTupleGo_zip (s:={ s with heap:=h' }) a1 fun h'' hz' hs' => ?_⟩
  have lt:∀ {c o},s.heap.get? c = some o→s.heap.objs.size ≠ c:=fun e => Nat.ne_of_gt (Heap.lt_size e)
  have nz:s.heap.objs.size ≠ z:=lt hz
  have kk:∀ c u,c ∉ [z,TI,TO,i1,i2]→s.heap.get? c = some u→h''.get? c = some u:=fun c u m e => by
   simp only [List.mem_cons,List.not_mem_nil,or_false,not_or] at m
   exact hs'.extBut _ _ m.1 (hk c u m.1 m.2.2.1 m.2.2.2.1 m.2.2.2.2 e)
  have fresh:=I.hok.fresh (Nat.le_refl s.heap.objs.size)
  have J:Zo X pins σ (Z4 H s.heap.objs.size (.tup [x,y])) { s with heap:=h'',toks:=s.toks }:=I.turnLay kk hf (Nat.le_refl _) ⟨by show 2 ≤ sizeLine; decide,[u1,u2],.cons r1 (.cons r2 .nil),⟨_,hs'.extBut _ _ nz a5,rfl,_,rfl⟩⟩
  refine ⟨.ref s.heap.objs.size,_,J,rfl,⟨_,x,y,rfl,fresh,rfl,fun ws hw => by rw [I.list_inj hw q1]; exact g1,fun ws hw => by rw [I.list_inj hw q2]; exact g2⟩,⟨hz',hs'.extBut _ _ D.TIz (hk _ _ D.TIz D.TITO D.TIi1 D.TIi2 hTI),⟨_,_,hs'.extBut _ _ D.TOz a2⟩,a3.extBut hs'.extBut D.i1z,a4.extBut hs'.extBut D.i2z⟩,fun c hc => ?_⟩
  have nc:c ≠ s.heap.objs.size:=fun q => by
   subst q
   simp only [List.mem_cons,List.not_mem_nil,or_false] at hc
   rcases hc with q | q | q | q | q
   ·exact lt hz q
   ·exact lt hTI q
   ·exact lt hTO q
   ·obtain ⟨_,e,_⟩:=h1; exact lt e q
   ·obtain ⟨_,e,_⟩:=h2; exact lt e q
  rw [Zh nc]
  exact (hf c hc).1
 done:=by
  intro X hP hw hK hc i pins s σ H E I hf st hg
  subst hP hw hK
  obtain ⟨xs,ys,q1,q2,g⟩:=hg
  obtain ⟨hz,hTI,⟨a,b,hTO⟩,h1,h2⟩:=st
  obtain ⟨is1,v1,pl1,z1⟩:=I.list q1
  obtain ⟨is2,v2,pl2,z2⟩:=I.list q2
  have hl1:=v1.length
  have hl2:=v2.length
  refine wpAny_pyNext_zip_end (I.ok.hd hc) D hz hTI hTO h1 h2 pl1.isList pl2.isList (by rcases g with g | g; exact .inl (by simp; omega); exact .inr (by simp; omega)) fun h' hk => ⟨rfl,I.turnL (t':=s.toks) (fp:=[z,TI,TO,i1,i2]) (fun c u m e => ?_) hf⟩
  simp only [List.mem_cons,List.not_mem_nil,or_false,not_or] at m
  exact hk c u m.1 m.2.2.1 m.2.2.2.1 m.2.2.2.2 e
 self:=fun A i s Q E st h => wpAny_pyIter_zip st.1 h
def iZip (K:W.Frag) (t:TA):TI:=fun σ H R => t σ H fun vs H1 => ∃ p q,vs = [.ref p,.ref q]∧(∃ xs,Ym K H1 p xs)∧(∃ ys,Ym K H1 q ys)∧R (Itz K p q) H1
section
variable {X:Cx} {es:List Expr} {k:Nat} {p2 pos pos2:Pos} {a b:Expr} {t:TA}
theorem pi_zip (hgz:Gl X "zip") (hmz:X.mg "zip" = none) (ha:PA X [a,b] t)
  (he2:starEach [a,b] X.env = (false,eval a X.env) :: starEach [b] X.env:=by rfl) (hpl:(backTo pos2 (starEach [b] X.env)).any (·.1) = false:=by rfl) :
  PI X (.Tuple es k pos) (.Call (.Name "zip" p2) [a,b] [] pos2) (iZip X.K t):=by
 intro pins s σ H R I h
 refine wpAny_Call_Name_kw (V7 I hgz hmz (by decide +kernel:bootBuiltins "zip" = some (.type "zip")) ?_ (by decide) (by decide))
 refine callWith_type1 (Y9 (ha pos2 pins s σ H _ I h) fun us s1 ⟨vs,H1,I1,r1,q1⟩ => ?_) he2 hpl
 obtain ⟨l1,l2,rfl,⟨xs,hx⟩,⟨ys,hy⟩,q⟩:=q1
 obtain ⟨u1,u2,rfl,e1,e2⟩:=vals2 r1
 cases e1
 cases e2
 obtain ⟨is1,v1,pl1,z1⟩:=I1.list hx
 obtain ⟨is2,v2,pl2,z2⟩:=I1.list hy
 have n1:l1 < s1.heap.objs.size:=by obtain ⟨_,e,_⟩:=pl1.isList; exact Heap.lt_size e
 have n2:l2 < s1.heap.objs.size:=by obtain ⟨_,e,_⟩:=pl2.isList; exact Heap.lt_size e
 refine call_zip_2 pl1.isList pl2.isList fun h2 b1 b2 b3 b4 b5 b6 k2 => ?_
 refine wpAny_pyIter_zip (s:={ s1 with heap:=h2 }) b1 ?_
 have J:Zo X pins σ H1 { s1 with heap:=h2,toks:=s1.toks }:=I1.kept k2
 refine ⟨_,[s1.heap.objs.size + 4,s1.heap.objs.size + 2,s1.heap.objs.size + 3,s1.heap.objs.size,s1.heap.objs.size + 1],_,_,H1,rfl,J,turn_zip _ _ _ _ _ l1 l2 (zipApart_new n1 n2),⟨b1,b2,⟨_,_,b3⟩,b4,b5⟩,fun c hc => ?_,q⟩
 have ge:s1.heap.objs.size ≤ c:=by
  simp only [List.mem_cons,List.not_mem_nil,or_false] at hc
  rcases hc with q | q | q | q | q <;> rw [q] <;> first | exact Nat.le_refl _ | exact Nat.le_add_right _ _
 exact I1.fpOk ge (I1.hok.fresh ge)
end
section
variable {X:Cx}
theorem op_catT0:OpR X (binaryOp .Add) (fun x y H Q => ∃ l b zs,x = .ref l∧y = .ref b∧Z9 X.K H l []∧Z9 X.K H b zs∧Q (.ref b) H):=by
 intro pins s σ H x y v u Q I rx ry h
 obtain ⟨l,b,zs,rfl,rfl,hl,hb,q⟩:=h
 cases rx
 cases ry
 obtain ⟨i1,r1,p1,z1⟩:=I.tuple hl
 obtain ⟨i2,r2,p2,z2⟩:=I.tuple hb
 have e1:i1 = []:=by cases r1; rfl
 subst e1
 obtain ⟨⟨c1,d1,t1,s1⟩,o1,k1,n1,m1⟩:=id p1
 obtain ⟨⟨c2,d2,t2,s2⟩,o2,k2,n2,m2⟩:=id p2
 simp only at k1 m1 k2 m2
 subst k1 m1 k2 m2
 exact concat_meets ⟨_,o1,rfl⟩ ⟨_,o2,rfl⟩ noFill_tuple_add seq_tuple_add PySem.F.slot_tuple_add PySem.F.entry_tuple_add (PySem.F.args_tuple_add_2 _ _) (tuple_addW0 l b _ _ n1 n2 d1 d2 s1 s2 rfl) ⟨o1,o2,⟨.ref b,H,I,rfl,q⟩⟩
end
end L2
namespace HT
open PySem PySem.Spec PyProof.Rows
section
variable {prog:Program} {w:World} {A:Around} {E:Value→Shared→Prop} {s:Shared}
theorem getItem_tuple_whole {t sl:Addr} {items:Array Value} {vl vu:Value} {lo hi:Option Int} {Q:Value→Shared→Prop} (ht:IsTup s.heap t items) (hs:s.heap.IsSliceOf sl vl vu .none) (pl:IsPart vl lo) (pu:IsPart vu hi)
  (hw:Ux items.size 0 lo = 0∧Ux items.size items.size hi = items.size) (h:Q (.ref t) s):wpAny (model prog w) A (getItem (.ref t) (.ref sl)) Q E s:=by
 obtain ⟨os,hos,hcs,hds⟩:=id hs
 have hTs:s.TypeIs (.ref sl) "slice" := ⟨os,hos,hcs⟩
 unfold getItem
 try with_reducible refine wpAny_holding ?_
 first | refine wpAny_bind (wpAny_pure ?_) | skip
 refine wpAny_bind (wpAny_sequenceKey ht.typeIs (by decide) ?_)
 refine wpAny_bind (wpAny_callSpecial?_slot (name:=Str.ofString "__getitem__") ht.typeIs slot_tuple_getitem
  (wpAny_call_entry slot_tuple_getitem ht.typeIs entry_tuple_getitem ?_ (args_tuple_getitem _ _)))
 show wpAny _ _ (Builtin.Tuple.tupleItemsOf (.ref t) >>= _) _ _ s
 refine wpAny_bind (tupleItemsOf_ ht ?_)
 refine wpAny_bind (wpAny_typeOf hTs ?_)
 rw [if_pos (by decide)]
 refine wpAny_bind (sliceApplied_gen hs pl pu ?_)
 have hyes:(((Ux items.size 0 lo:Nat):Int) == 0 && (1:Int) == 1 && (Ux items.size items.size hi - Ux items.size 0 lo) == items.size) = true:=by
  rw [hw.1,hw.2]
  simp
 show wpAny _ _ (if (((Ux items.size 0 lo:Nat):Int) == 0 && (1:Int) == 1 && (Ux items.size items.size hi - Ux items.size 0 lo) == items.size) = true then _ else _) _ _ s
 rw [if_pos hyes]
 refine wpAny_bind (m:=Builtin.Tuple.tupleIsExact (.ref t)) (wpAny_bind (wpAny_typeOf ht.typeIs (wpAny_pure ?_)))
 rw [if_pos (by decide)]
 exact wpAny_bind (wpAny_rule (wpAny_pure ⟨_,rfl,wpAny_pure h⟩))
end
end HT
namespace L2
open PySem PySem.Spec PyProof.Rows
section
variable {X:Cx} {e:Expr} {te:TE} {lo hi:Option Expr} {tl th:TO} {pos p2 p3 p4:Pos} {j1:Nat}
theorem Zb.lay {H:Hp} {p:Addr} {o:HO} (h:H p = none):Zb H (Z4 H p o):=fun b u q => by rw [Zh (Zl q h)]; exact q
def rSlG (K:W.Frag):V→Option Int→Option Int→Hp→VK→Prop:=fun x lo hi H Q => ∃ a xs,x = .ref a∧Z9 K H a xs∧∀ p H',Zb H H'→Z9 K H' p (Yr xs lo hi)→Q (.ref p) H'
theorem sl_tupG:SlR X (rSlG X.K):=by
 intro pins s σ H x v vl vu lo hi sl Q I rx hs pl pu h
 obtain ⟨a,xs,rfl,hx,q⟩:=h
 by_cases hw:HT.Ux xs.length 0 lo = 0∧HT.Ux xs.length xs.length hi = xs.length
 ·cases rx
  obtain ⟨its,r,ht,hz⟩:=I.tuple hx
  have hlen:its.toArray.size = xs.length:=by rw [List.size_toArray]; exact r.length.symm
  refine ⟨"tuple",_,slot_tuple_getitem.lookup,ht.typeIs, ?_⟩
  refine HT.getItem_tuple_whole ht hs pl pu (by rw [hlen]; exact hw) ⟨.ref a,H,I,rfl,q a H (Zb.refl H) ?_⟩
  have e:Yr xs lo hi = xs:=by
   unfold Yr
   rw [hw.1,hw.2,List.drop_zero,Nat.sub_zero,List.take_length]
  rw [e]
  exact hx
 ·exact sl_tup pins s σ H _ v vl vu lo hi sl Q I rx hs pl pu ⟨a,xs,rfl,hx,hw,fun p hp => q p _ (Zb.lay hp) (Z9.of Zq)⟩
theorem Z2.rev {xs:List V} {us:List Value} (r:Z2 xs us):Z2 xs.reverse us.reverse:=by
 induction r with
 | nil => exact .nil
 | cons h t ih =>
  rw [List.reverse_cons,List.reverse_cons]
  exact Z2.append ih (.cons h .nil)
def rCatG (K:W.Frag):R2:=fun x y H Q => ∃ a b xs ys,x = .ref a∧y = .ref b∧Z9 K H a xs∧Z9 K H b ys∧xs.length + ys.length ≤ sizeLine∧∀ p H',Zb H H'→Z9 K H' p (xs ++ ys)→Q (.ref p) H'
theorem Uf:OpR X (binaryOp .Add) (rCatG X.K):=by
 intro pins s σ H x y v u Q I rx ry h
 obtain ⟨a,b,xs,ys,rfl,rfl,ha,hb,hz,q⟩:=h
 cases xs with
 | nil => exact op_catT0 pins s σ H _ _ v u Q I rx ry ⟨a,b,ys,rfl,rfl,ha,hb,q b H (Zb.refl H) hb⟩
 | cons x xs =>
  refine op_catT pins s σ H _ _ v u Q I rx ry ⟨a,b,x :: xs,ys,rfl,rfl,ha,hb,(fun z => nomatch z),hz,fun e => ?_,fun _ p hp => q p _ (Zb.lay hp) (Z9.of Zq)⟩
  subst e
  exact q a H (Zb.refl H) (by rw [List.append_nil]; exact ha)
end
structure FnV (X:Cx) (f:Addr) (ps:List Str) (sp:Sp):Prop where
 ok:∃ k fd,Yy X.prog X.w X.K X.mg X.base Um k f fd ps sp∧Binds X.K fd ps []∧Vl k X.A
 kp:W.keepIn X.K (.ref f) = true
section
variable {X:Cx} {x:Str} {p pos:Pos} {e:Expr} {es:List Expr} {tn:TE} {t:TA} {Y:Cx→Addr→List Str→Sp→Prop}
end
inductive Th where
 | non | bl (b:Bool) | int (i:Int) | str (x:Str) | tup (ts:List Th) | opq
mutual
def IsTh (K:W.Frag) (H:Hp):Th→V→Prop
 | .non,v => v = .non
 | .bl b,v => v = .bl b
 | .int i,v => v = .int i
 | .str x,v => v = .str x
 | .tup ts,v => ∃ a vs,v = .ref a∧Z9 K H a vs∧Yh K H ts vs
 | .opq,v => ∃ a,v = .ref a∧((∃ xs,H a = some (.lst xs)) ∨ ∃ kvs,H a = some (.dK kvs))
def Yh (K:W.Frag) (H:Hp):List Th→List V→Prop
 | [],vs => vs = []
 | t :: ts,vs => ∃ v r,vs = v :: r∧IsTh K H t v∧Yh K H ts r
end
structure UpT (K:W.Frag) (H H':Hp):Prop where
 tup:Up K H H'
 lst:∀ a xs,H a = some (.lst xs)→∃ ys,H' a = some (.lst ys)
 dct:∀ a kvs,H a = some (.dK kvs)→H' a = some (.dK kvs)
section
variable {K:W.Frag} {H H1 H':Hp}
theorem UpT.refl (H:Hp):UpT K H H:=⟨Up.refl H,fun _ xs h => ⟨xs,h⟩,fun _ _ h => h⟩
theorem UpT.trans {H2:Hp} (a:UpT K H H1) (b:UpT K H1 H2):UpT K H H2:=⟨a.tup.trans b.tup,fun p xs h => let ⟨_,e⟩:=a.lst p xs h; b.lst p _ e,fun p k h => b.dct p k (a.dct p k h)⟩
mutual
theorem IsTh.up (u:UpT K H H'):∀ (t:Th) (v:V),IsTh K H t v→IsTh K H' t v
 | .non,_,h => h
 | .bl _,_,h => h
 | .int _,_,h => h
 | .str _,_,h => h
 | .tup ts,v,h => by
  obtain ⟨a,vs,e,q,r⟩:=h
  exact ⟨a,vs,e,u.tup a vs q,Yh.up u ts vs r⟩
 | .opq,v,h => by
  obtain ⟨a,e,q⟩:=h
  refine ⟨a,e, ?_⟩
  rcases q with ⟨xs,q⟩ | ⟨k,q⟩
  ·exact .inl (u.lst a xs q)
  ·exact .inr ⟨k,u.dct a k q⟩
theorem Yh.up (u:UpT K H H'):∀ (ts:List Th) (vs:List V),Yh K H ts vs→Yh K H' ts vs
 | [],_,h => h
 | t :: ts,vs,h => by
  obtain ⟨v,r,e,q,w⟩:=h
  exact ⟨v,r,e,IsTh.up u t v q,Yh.up u ts r w⟩
end
theorem Yh.length:∀ {ts:List Th} {vs:List V},Yh K H ts vs→ts.length = vs.length
 | [],vs,h => by
  have e:vs = []:=h
  subst e; rfl
 | t :: ts,vs,h => by
  obtain ⟨v,r,rfl,_,w⟩:=h
  simp only [List.length_cons,Yh.length w]
theorem Yh.get:∀ {ts:List Th} {vs:List V} {i:Nat} {t:Th},Yh K H ts vs→ts[i]? = some t→∃ v,vs[i]? = some v∧IsTh K H t v
 | [],vs,i,t,_,e => by simp at e
 | t :: ts,vs,0,t',h,e => by
  obtain ⟨v,r,rfl,q,_⟩:=h
  simp at e; subst e
  exact ⟨v,rfl,q⟩
 | t :: ts,vs,i + 1,t',h,e => by
  obtain ⟨v,r,rfl,_,w⟩:=h
  obtain ⟨v',e1,q⟩:=Yh.get (i:=i) w (by simpa using e)
  exact ⟨v',by simpa using e1,q⟩
theorem Yh.append:∀ {ts us:List Th} {vs ws:List V},Yh K H ts vs→Yh K H us ws→Yh K H (ts ++ us) (vs ++ ws)
 | [],us,vs,ws,h,h' => by
  have e:vs = []:=h
  subst e; exact h'
 | t :: ts,us,vs,ws,h,h' => by
  obtain ⟨v,r,rfl,q,w⟩:=h
  exact ⟨v,r ++ ws,rfl,q,Yh.append w h'⟩
theorem Yh.one {t:Th} {v:V} (h:IsTh K H t v):Yh K H [t] [v]:=⟨v,[],rfl,h,rfl⟩
theorem Yh.drop:∀ {ts:List Th} {vs:List V} (n:Nat),Yh K H ts vs→Yh K H (ts.drop n) (vs.drop n)
 | ts,vs,0,h => h
 | [],vs,n + 1,h => by
  have e:vs = []:=h
  subst e; rfl
 | t :: ts,vs,n + 1,h => by
  obtain ⟨v,r,rfl,_,w⟩:=h
  exact Yh.drop n w
theorem Yh.take:∀ {ts:List Th} {vs:List V} (n:Nat),Yh K H ts vs→Yh K H (ts.take n) (vs.take n)
 | ts,vs,0,_ => rfl
 | [],vs,n + 1,h => by
  have e:vs = []:=h
  subst e; rfl
 | t :: ts,vs,n + 1,h => by
  obtain ⟨v,r,rfl,q,w⟩:=h
  exact ⟨v,r.take n,rfl,q,Yh.take n w⟩
theorem Yh.reverse:∀ {ts:List Th} {vs:List V},Yh K H ts vs→Yh K H ts.reverse vs.reverse
 | [],vs,h => by
  have e:vs = []:=h
  subst e; rfl
 | t :: ts,vs,h => by
  obtain ⟨v,r,rfl,q,w⟩:=h
  rw [List.reverse_cons,List.reverse_cons]
  exact Yh.append (Yh.reverse w) (Yh.one q)
end
def isiT (T:String):Th→Bool
 | .non => false
 | .bl _ => T == "int" || T == "bool"
 | .int _ => T == "int"
 | .str _ => T == "str"
 | .tup _ => T == "tuple"
 | .opq => false
section
variable {X:Cx}
theorem isi_tup {pins:List (Addr × Obj)} {σ:St} {H:Hp} {s:Shared} {a:Addr} {xs:List V} {c:Value} {b:Bool} {Q:Value→Shared→Prop} {E:Value→Shared→Prop} (I:Zo X pins σ H s) (q:Z9 X.K H a xs) (e:W.kitOne X.K (.type "tuple") c = some b) (h:∀ tk,Q (.bool b) { s with toks:=tk }) :
  wpAny (model X.prog X.w) X.A (call (.builtin "isinstance") [.ref a,c]) Q E s:=by
 obtain ⟨its,_,⟨o,h1,h2,_⟩,_⟩:=I.tuple q
 exact W.kia_one W.kitx_tuple I.kIn ⟨o,h1,h2⟩ e (fun z => nomatch z) h
theorem call_isiTh:CallR X (.builtin "isinstance") (fun xs H Q => ∃ x T t,xs = [x,.ty T]∧IsTh X.K H t x∧T ∈ ["tuple","str","int","bool"]∧Q (.bl (isiT T t)) H):=by
 intro pins s σ H xs us Q I r h
 obtain ⟨x,T,t,rfl,ht,hT,q⟩:=h
 obtain ⟨u,w',rfl,rx,ry⟩:=vals2 r
 cases ry
 have fin:∀ tk,EP X pins σ Q (.bool (isiT T t)) { s with toks:=tk }:=fun tk => ⟨.bl _,H,I.tok _,rfl,q⟩
 have four:∀ P:String→Prop,P "tuple" → P "str" → P "int" → P "bool" → P T:=fun P a b c d => by
  simp only [List.mem_cons,List.not_mem_nil,or_false] at hT
  rcases hT with rfl | rfl | rfl | rfl
  ·exact a
  ·exact b
  ·exact c
  ·exact d
 cases t with
 | non =>
  cases (show x = .non from ht)
  exact isinst_ok I rx .non (by revert fin; exact four (fun T => _→W.kitOne X.K (.type "NoneType") (.type T) = some (isiT T .non)) (fun _ => rfl) (fun _ => rfl) (fun _ => rfl) (fun _ => rfl)) fin
 | bl b =>
  cases (show x = .bl b from ht)
  exact isinst_ok I rx (.bl b) (by revert fin; exact four (fun T => _→W.kitOne X.K (.type "bool") (.type T) = some (isiT T (.bl b))) (fun _ => rfl) (fun _ => rfl) (fun _ => rfl) (fun _ => rfl)) fin
 | int i =>
  cases (show x = .int i from ht)
  exact isinst_ok I rx (.int i) (by revert fin; exact four (fun T => _→W.kitOne X.K (.type "int") (.type T) = some (isiT T (.int i))) (fun _ => rfl) (fun _ => rfl) (fun _ => rfl) (fun _ => rfl)) fin
 | str i =>
  cases (show x = .str i from ht)
  exact isinst_ok I rx (.str i) (by revert fin; exact four (fun T => _→W.kitOne X.K (.type "str") (.type T) = some (isiT T (.str i))) (fun _ => rfl) (fun _ => rfl) (fun _ => rfl) (fun _ => rfl)) fin
 | tup ts =>
  obtain ⟨a,vs,rfl,hq,_⟩:=ht
  cases rx
  exact isi_tup I hq (by revert fin; exact four (fun T => _→W.kitOne X.K (.type "tuple") (.type T) = some (isiT T (.tup ts))) (fun _ => rfl) (fun _ => rfl) (fun _ => rfl) (fun _ => rfl)) fin
 | opq =>
  obtain ⟨a,rfl,⟨xs,hq⟩ | ⟨k,hq⟩⟩:=ht
  ·exact isinst_ok I rx (.lst hq) (by revert fin; exact four (fun T => _→W.kitOne X.K (.type "list") (.type T) = some (isiT T .opq)) (fun _ => rfl) (fun _ => rfl) (fun _ => rfl) (fun _ => rfl)) fin
  ·exact isinst_ok I rx (.dK hq) (by revert fin; exact four (fun T => _→W.kitOne X.K (.type "dict") (.type T) = some (isiT T .opq)) (fun _ => rfl) (fun _ => rfl) (fun _ => rfl) (fun _ => rfl)) fin
end
theorem goAlways {τ:St} {o:Option V} {v:V} {H:Hp} {A B:St→Hp→Prop} (h:A (some v :: τ) H):gName 0 v (o :: τ) H fun σ2 H2 => tAlways σ2 H2 fun ok H3 => if ok = true then A σ2 H3 else B σ2 H3:=by
 show if true = true then A (some v :: τ) H else B (some v :: τ) H
 rw [if_pos rfl]
 exact h
theorem take_more {α:Type} {xs:List α} {i:Nat} {x:α} (e:xs[i]? = some x):xs.take (i + 1) = xs.take i ++ [x]:=by rw [List.take_add_one,e]; rfl
section
variable {K:W.Frag} {H:Hp} {a D:Addr} {xs:List V} {ts:List Th} {te:TE} {tt:TT} {fin:Hp→Prop} {τ:St} {o:Option V}
end
end L2
namespace K01
open PySem PySem.Spec PyProof.Rows L2
def gdC (c:Nat):Prop:=32 ≤ c∧c ≤ 126∧c ≠ 37
def gdS (x:Str):Prop:=∀ c ∈ x.cps.toList,gdC c
mutual
def gdT:Th→Prop
 | .str x => gdS x∧x.length ≤ 1000
 | .tup ts => gdTs ts
 | _ => True
def gdTs:List Th→Prop
 | [] => True
 | t :: ts => gdT t∧gdTs ts
end
mutual
def szT:Th→Nat
 | .tup ts => szTs ts + 1
 | _ => 1
def szTs:List Th→Nat
 | [] => 0
 | t :: ts => szT t + szTs ts
end
mutual
def dpT:Th→Nat
 | .tup ts => dpTs ts + 1
 | _ => 0
def dpTs:List Th→Nat
 | [] => 0
 | t :: ts => max (dpT t) (dpTs ts)
end
mutual
def wdT:Th→Nat
 | .tup ts => max ts.length (wdTs ts)
 | _ => 0
def wdTs:List Th→Nat
 | [] => 0
 | t :: ts => max (wdT t) (wdTs ts)
end
def LET:Str:="abcdefghijklmnopqrstuvwxyz"
def SGN : Str := " !\"#$&'()*+,-./0123456789:;<=>?\x40ABCDEFGHIJKLMNOPQRSTUVWXYZ[\\]^_`abcdefghijklmnopqrstuvwxyz{|}~"
structure Fine (t:Th) (s d w:Nat):Prop where
 gd:gdT t
 sz:szT t ≤ s
 dp:dpT t ≤ d
 wd:wdT t ≤ w
theorem ltCps_eq:∀ a b:List Nat,ltCps a b = decide (a < b)
 | [],[] => by simp [ltCps]
 | [],_ :: _ => by simp [ltCps]
 | _ :: _,[] => by simp [ltCps]
 | a :: r,b :: t => by
  simp only [ltCps,ltCps_eq r t,List.cons_lt_cons_iff]
  by_cases h1:a < b <;> by_cases h2:a = b <;> by_cases h3:r < t <;> simp [h1,h2,h3]
def ltS (x y:Str):Prop:=x.cps.toList < y.cps.toList
theorem ltS_trans {x y z:Str} (a:ltS x y) (b:ltS y z):ltS x z:=List.lt_trans a b
theorem str_ext {x y:Str} (h:x.cps.toList = y.cps.toList):x = y:=by
 cases x; cases y
 simp only at h
 congr
 exact Array.toList_inj.mp h
theorem ltS_of {x y:Str} (h:¬ ltS y x) (n:x ≠ y):ltS x y:=by
 by_cases z:ltS x y
 ·exact z
 ·exact absurd (str_ext (List.le_antisymm (List.not_lt.mp h) (List.not_lt.mp z))) n
def adj {α:Type} (r:α→α→Prop):List α→Prop
 | a :: b :: l => r a b∧adj r (b :: l)
 | _ => True
theorem adj_pair {α:Type} {r:α→α→Prop} (tr:∀ a b c,r a b→r b c→r a c):∀ {l:List α},adj r l→l.Pairwise r
 | [],_ => .nil
 | [a],_ => by simp
 | a :: b :: l,h => by
  have ih:=adj_pair tr (l:=b :: l) h.2
  refine List.pairwise_cons.mpr ⟨fun c m => ?_,ih⟩
  rcases List.mem_cons.mp m with rfl | m
  ·exact h.1
  ·exact tr _ _ _ h.1 ((List.pairwise_cons.mp ih).1 c m)
theorem sortedS_adj:∀ {ns:List Str},sortedS ns = true→ns.Nodup→adj ltS ns
 | [],_,_ => trivial
 | [a],_,_ => trivial
 | a :: b :: l,h,n => by
  have h':(!ltCps b.cps.toList a.cps.toList && risingS b l) = true:=h
  rw [Bool.and_eq_true] at h'
  have n':=List.nodup_cons.mp n
  refine ⟨ltS_of (fun z => ?_) (fun z => ?_),sortedS_adj (ns:=b :: l) h'.2 n'.2⟩
  ·have:=h'.1
   rw [ltCps_eq,decide_eq_true (show b.cps.toList < a.cps.toList from z)] at this
   cases this
  ·exact n'.1 (by rw [z]; exact List.mem_cons_self)
theorem sortedI_adj {ns:List Int} (h:ns.Pairwise (· ≤ ·)) (n:ns.Nodup):ns.Pairwise (· < ·):=by
 induction ns with
 | nil => exact .nil
 | cons a l ih =>
  have h':=List.pairwise_cons.mp h
  have n':=List.nodup_cons.mp n
  refine List.pairwise_cons.mpr ⟨fun b m => ?_,ih h'.2 n'.2⟩
  have:=h'.1 b m
  have:a ≠ b:=fun z => n'.1 (by rw [z]; exact m)
  omega
end K01
namespace L2
open PySem PySem.Spec PyProof.Rows
section
variable {X:Cx}
theorem pe_globS {x z:Str} {pos:Pos} (hg:Gl X x) (hm:∃ t,X.mg x = some (.str z t)) (hd:(x == ("__debug__" : Str)) = false:=by decide):PE X (.Name x pos) (tC (.str z)):=by
 obtain ⟨t,hm⟩:=hm
 exact pe_glob hg hm ⟨t,rfl⟩ hd
theorem pe_globN {x:Str} {z:Int} {pos:Pos} (hg:Gl X x) (hm:∃ t,X.mg x = some (.int z t)) (hd:(x == ("__debug__" : Str)) = false:=by decide):PE X (.Name x pos) (tC (.int z)):=by
 obtain ⟨t,hm⟩:=hm
 exact pe_glob hg hm ⟨t,rfl⟩ hd
end
end L2
namespace RevA
open PySem
theorem init_rev:Slot "reversed" "__init__" "object.__init__" :=
 .of (owner:="object") (n:="__init__") (by rw [typeLookup_type,builtinLookup_eq_fast]; kernel_rfl) (by decide +kernel) (by decide +kernel) (by decide +kernel) (by first | exact .inl (by decide +kernel) | exact .inr (by decide +kernel)) (by rw [isSubtype_type]; kernel_rfl)
theorem called_rev:TypeCalled "reversed" "reversed.__new__" "object.__init__" :=
 ⟨by decide +kernel,PySem.F.create_reversed,⟨_,_,PySem.F.mro_reversed⟩,PySem.F.made_reversed,by decide +kernel,PySem.F.sub_reversed_self,init_rev⟩
theorem no_rev:typeLookup (.type "tuple") "__reversed__" = pure none:=by rw [typeLookup_type,builtinLookup_eq_fast]; kernel_rfl
abbrev tO (dd:Option Addr) (its:Array Value) (n:Nat) (sl:Array (Option Value)):Obj:={ cls:=.type "tuple",dict:=dd,data:=.seq its n,slots:=sl }
abbrev rvO (t:Addr) (i:Int):Obj:={ cls:=.type "reversed",data:=.fields #[.ref t,rawInt i] }
theorem rev_new (t:Addr) (its:Array Value) (n:Nat) (dd:Option Addr) (sl:Array (Option Value)) (hz:((its.size:Nat):Int) < 2 ^ 63) :
  Meets (Builtin.«reversed.__new__» ⟨[.type "reversed",.ref t],[]⟩) (fun _ R s => s.heap.get? t = some (tO dd its n sl)∧∀ tk,R (.ok (.ret (.ref s.heap.objs.size))) { s with heap:=s.heap.push (rvO t ((its.size:Int) - 1)),toks:=tk }) :=
 .of_wp fun prog w A R s h => by
  obtain ⟨hp,g,d,tk,os⟩:=s
  obtain ⟨hl,h⟩:=h
  have hT:(⟨hp,g,d,tk,os⟩:Shared).TypeIs (.ref t) "tuple" := ⟨_,hl,rfl⟩
  unfold Builtin.«reversed.__new__»
  refine wpAny_bind (wpAny_of_eq (newClass_reversed _) ?_)
  try dsimp only
  refine wpAny_bind (wpAny_of_eq (a:=()) (by first | rfl | kernel_rfl) ?_)
  refine wpAny_bind (wpAny_of_eq (a:=()) (by first | rfl | kernel_rfl) ?_)
  try dsimp only
  refine wpAny_bind (wpAny_specialOf hT no_rev ?_)
  have f1:isSubtype (.type "tuple") (.type "dict") = pure false:=by rw [isSubtype_type]; kernel_rfl
  have f2:=PySem.F.slot_tuple_getitem.lookup
  have z63:((its.size:Nat):Int) < 2 ^ 63:=hz
  iterate 10 (first | with_reducible refine wpAny_typeOf hT ?_ | wp_step)
  refine wpAny_bind (PyProof.Rows.len_tuple (s:=⟨hp,g,d,tk,os⟩) ⟨_,hl,rfl,n,rfl⟩ z63 ?_)
  refine wpAny_bind (wpAny_of_eq (a:=some (its.size:Int)) rfl ?_)
  refine wpAny_bind (m:=Builtin.SmallTypes.newRecord _ _) ?_
  unfold Builtin.SmallTypes.newRecord
  refine wpAny_newObj_type ?_
  exact wpAny_pure ⟨_,rfl,h _⟩
section
variable {prog:Program} {w:World} {A:Around} {E:Value→Shared→Prop} {s:Shared} {r t:Addr} {its:Array Value} {i:Int}
theorem call_rev {Q:Value→Shared→Prop} (ht:PyProof.Rows.IsTup s.heap t its) (hz:((its.size:Nat):Int) < 2 ^ 63) (h:∀ tk,Q (.ref s.heap.objs.size) { s with heap:=s.heap.push (rvO t ((its.size:Int) - 1)),toks:=tk }) :
  wpAny (model prog w) A (call (.type "reversed") [.ref t]) Q E s:=by
 obtain ⟨⟨oc,od,dt,sl⟩,ho,hc,n,hd⟩:=ht
 obtain rfl:oc = _:=hc
 obtain rfl:dt = _:=hd
 exact callType_new called_rev (by decide) (PySem.F.typeCall_reversed_1 _) (PySem.F.newCall_reversed_1 _) (fun obj => PySem.F.args_object_init_2 obj _) PySem.F.entry_reversed_new (rev_new t its n od sl hz) ⟨ho,fun tk => ⟨⟨_,Heap.get?_push_size _ rfl,rfl⟩,h tk⟩⟩
def IsRv (h:Heap) (r t:Addr) (i:Int):Prop:=∃ o,h.get? r = some o∧o.cls = .type "reversed" ∧ o.data = .fields #[.ref t,rawInt i]
theorem IsRv.ty (x:IsRv s.heap r t i):s.TypeIs (.ref r) "reversed" := let ⟨o,ho,hc,_⟩:=x; ⟨o,ho,hc⟩
theorem slot_next:Slot "reversed" "__next__" "reversed.__next__" :=
 .of (owner:="reversed") (n:="__next__") (by rw [typeLookup_type,builtinLookup_eq_fast]; kernel_rfl) (by decide +kernel) (by decide +kernel) (by decide +kernel) (by first | exact .inl (by decide +kernel) | exact .inr (by decide +kernel)) (by rw [isSubtype_type]; kernel_rfl)
theorem entry_next:entryFor table "reversed.__next__" = some Builtin.«reversed.__next__»:=entryFor_of_tree (by kernel_rfl)
theorem args_next (a:Value):argsOk "reversed.__next__" ⟨[a],[]⟩:=by unfold argsOk; kernel_rfl
end
end RevA
namespace RevA
open PySem PyProof.Rows
section
variable {prog:Program} {w:World} {A:Around} {E:Value→Shared→Prop} {s:Shared} {r t:Addr} {its:Array Value}
theorem next_item {i:Nat} {x:Value} {Q:Option Value→Shared→Prop} (hr:IsRv s.heap r t (i:Int)) (ht:IsTup s.heap t its) (hx:its[i]? = some x) (hz:((its.size:Nat):Int) < 2 ^ 63)
  (h:∀ h' tk,IsRv h' r t ((i:Int) - 1)→Heap.SameBut r s.heap h'→Q (some x) { s with heap:=h',toks:=tk }):wpAny (model prog w) A (pyNext (.ref r)) Q E s:=by
 obtain ⟨o,ho,hc,hd⟩:=id hr
 have hi:i < its.size:=(Array.getElem?_eq_some_iff.mp hx).1
 unfold pyNext
 refine wpAny_bind (wpAny_attempt (wpAny_callSpecial?_slot (name:=Str.ofString "__next__") hr.ty slot_next (wpAny_call_entry slot_next hr.ty entry_next ?_ (args_next _))))
 unfold Builtin.«reversed.__next__»
 refine wpAny_bind (wpAny_of_eq (a:=(Value.ref r,[])) rfl ?_)
 try dsimp only
 refine wpAny_bind (wpAny_field ho hd (x:=.ref t) rfl ?_)
 refine wpAny_bind (wpAny_field ho hd (x:=rawInt (i:Int)) rfl ?_)
 show wpAny _ _ (if (i:Int) < 0 then _ else _) _ _ s
 rw [if_neg (by omega)]
 refine wpAny_bind (wpAny_specialOf ht.typeIs PySem.F.slot_tuple_getitem.lookup ?_)
 rw [if_neg (by decide)]
 refine wpAny_bind (wpAny_mkInt ?_)
 refine wpAny_bind (wpAny_attempt ?_)
 have e:seqIndex? (i:Int) its.size = some i:=by
  unfold seqIndex?
  have n0:¬ ((i:Int) < 0):=by omega
  have c:(decide (0 ≤ (i:Int)) && decide ((i:Int) < (its.size:Int))) = true:=by simp; omega
  simp only [n0,if_false,c,if_true,Int.toNat_natCast]
 refine getItem_tuple (s:={ s with toks:=s.toks + 1 }) (j:=i) ht (by omega) (by omega) e hx ?_
 refine wpAny_bind (wpAny_field (s:={ s with toks:=s.toks + 1 }) ho hd (x:=rawInt (i:Int)) rfl ?_)
 refine wpAny_bind (wpAny_setField (s:={ s with toks:=s.toks + 1 }) ho hd (by simp) ?_)
 refine wpAny_pure ⟨x,rfl,wpAny_pure (h _ _ ⟨_,Heap.get?_update_self _ ho (Obj.isFreed_of_fields (Obj.data_mapFields hd _)),(Obj.cls_mapFields ..).trans hc, ?_⟩ (Heap.SameBut.update ..))⟩
 rw [Obj.data_mapFields hd]; simp
theorem next_end {Q:Option Value→Shared→Prop} (hh:A.handled = none) (hr:IsRv s.heap r t (-1))
  (h:∀ h',(∀ b u,b ≠ r→s.heap.get? b = some u→h'.get? b = some u)→Q none { s with heap:=h' }):wpAny (model prog w) A (pyNext (.ref r)) Q E s:=by
 obtain ⟨o,ho,hc,hd⟩:=id hr
 unfold pyNext
 refine wpAny_bind (wpAny_attempt (wpAny_callSpecial?_slot (name:=Str.ofString "__next__") hr.ty slot_next (wpAny_call_entry slot_next hr.ty entry_next ?_ (args_next _))))
 unfold Builtin.«reversed.__next__»
 refine wpAny_bind (wpAny_of_eq (a:=(Value.ref r,[])) rfl ?_)
 try dsimp only
 refine wpAny_bind (wpAny_field ho hd (x:=.ref t) rfl ?_)
 refine wpAny_bind (wpAny_field ho hd (x:=rawInt (-1)) rfl ?_)
 show wpAny _ _ (if (-1:Int) < 0 then _ else _) _ _ s
 rw [if_pos (by decide)]
 refine wpAny_bind (wpAny_rule ?_)
 refine wpAny_bind (wpAny_bind (wpAny_setField ho hd (by simp) ?_))
 have h1:=Heap.get?_update_self (Obj.mapFields (·.setIfInBounds 1 (rawInt (-1)))) ho (Obj.isFreed_of_fields (Obj.data_mapFields hd _))
 have d1:=Obj.data_mapFields hd (·.setIfInBounds 1 (rawInt (-1)))
 refine wpAny_setField h1 d1 (by simp) ?_
 refine wpAny_bind ?_
 show wpAny _ _ (newExc (.type "StopIteration") [] >>= _) _ _ _
 refine wpAny_bind ?_
 simp only [newExc,newTuple]
 refine wpAny_bind (wpAny_newObj_type ?_ (by size_fits))
 refine wpAny_bind (m:=firstArgMember _ _) (wpAny_of_eq (a:=Value.none) (by first | rfl | (simp only [firstArgMember]; rfl)) ?_)
 refine wpAny_newObj_type ?_ (by size_fits)
 refine wpAny_raiseNew_none (A:=A.in1) hh ?_
 refine wpAny_bind (wpAny_isInstance (T:="StopIteration") (b:=true) ⟨_,Heap.get?_push_size _ rfl,rfl⟩ isSubtype_stop ?_)
 refine wpAny_pure (h _ fun b u hb q => ?_)
 exact Heap.get?_push_of_some _ (Heap.get?_push_of_some _ ((Heap.get?_update_other _ _ (Ne.symm hb)).trans ((Heap.get?_update_other _ _ (Ne.symm hb)).trans q)))
end
theorem slot_iter:Slot "reversed" "__iter__" "reversed.__iter__" :=
 .of (owner:="reversed") (n:="__iter__") (by rw [typeLookup_type,builtinLookup_eq_fast]; kernel_rfl) (by decide +kernel) (by decide +kernel) (by decide +kernel) (by first | exact .inl (by decide +kernel) | exact .inr (by decide +kernel)) (by rw [isSubtype_type]; kernel_rfl)
theorem args_iter (a:Value):argsOk "reversed.__iter__" ⟨[a],[]⟩:=by unfold argsOk; kernel_rfl
theorem entry_iter:entryFor table "reversed.__iter__" = some Builtin.«dict_keyiterator.__iter__» :=
 entryFor_alias (id':="dict_keyiterator.__iter__") (by kernel_rfl) (by first | rfl | decide +kernel) (by decide +kernel) (by kernel_rfl)
section
variable {prog:Program} {w:World} {A:Around} {E:Value→Shared→Prop} {s:Shared} {r t:Addr} {its:Array Value}
theorem iter_self {i:Int} {Q:Value→Shared→Prop} (hr:IsRv s.heap r t i) (h:Q (.ref r) s):wpAny (model prog w) A (pyIter (.ref r)) Q E s:=by
 refine wpAny_pyIter_slot hr.ty slot_iter (wpAny_call_entry slot_iter hr.ty entry_iter ?_ (args_iter _))
 change wpAny _ _ (ret (.ref r)) _ _ s
 exact wpAny_pure ⟨_,rfl,"reversed",_,hr.ty,slot_next.lookup,h⟩
theorem IsRv.at {h h':Heap} {i:Int} (x:IsRv h r t i) (e:∀ o,h.get? r = some o→h'.get? r = some o):IsRv h' r t i:=let ⟨o,ho,q⟩:=x; ⟨o,e o ho,q⟩
theorem tup_at {h h':Heap} (x:IsTup h t its) (e:∀ o,h.get? t = some o→h'.get? t = some o):IsTup h' t its:=let ⟨o,ho,q⟩:=x; ⟨o,e o ho,q⟩
theorem walks (hh:A.handled = none) (hne:t ≠ r) (hz:((its.size:Nat):Int) < 2 ^ 63) :
  Walks prog w A r [r,t] [r] its.size (fun i v => its[its.size - 1 - i]? = some v) (fun i h => i ≤ its.size∧IsRv h r t ((its.size:Int) - 1 - (i:Int))∧IsTup h t its) where
 sub:=fun b hb => by simp at hb; simp [hb]
 frame:=fun _ _ _ x hk => ⟨x.1,x.2.1.at fun o e => hk r (by simp) o e,tup_at x.2.2 fun o e => hk t (by simp) o e⟩
 item:=fun i s Q E hi x hQ => by
  have e:(its.size:Int) - 1 - (i:Int) = ((its.size - 1 - i:Nat):Int):=by omega
  have hr:=x.2.1
  rw [e] at hr
  have hx:its[its.size - 1 - i]? = some (its[its.size - 1 - i]'(by omega)):=Array.getElem?_eq_getElem (by omega)
  refine next_item hr x.2.2 hx hz fun h' tk hr' hs => ?_
  rw [show ((its.size - 1 - i:Nat):Int) - 1 = (its.size:Int) - 1 - ((i + 1:Nat):Int) by omega] at hr'
  exact hQ _ h' tk hx ⟨hi,hr',tup_at x.2.2 fun o eo => (hs.2 t hne).trans eo⟩ fun b o hb eo => (hs.2 b fun z => hb (by simp [z])).trans eo
 done:=fun s Q E x hQ => by
  have hr:=x.2.1
  rw [show (its.size:Int) - 1 - (its.size:Int) = -1 by omega] at hr
  exact next_end hh hr fun h' k => hQ h' s.toks fun b o hb eo => k b o (fun z => hb (by simp [z])) eo
 self:=fun _ _ _ _ x hQ => iter_self x.2.1 hQ
end
section
variable {prog:Program} {w:World} {A:Around} {E:Value→Shared→Prop} {s:Shared} {R:Result→Shared→Prop} {I S:Addr} {fp wr:List Addr} {n:Nat} {P:Nat→Value→Prop} {St:Nat→Heap→Prop} {T:String}
theorem ext_walk (W:Walks prog w A.in1 I fp wr n P St) (ty:s.TypeIs (.ref I) T) (n2:(Value.type T == Value.type "list") = false) (n3:(Value.type T == Value.type "tuple") = false) (res:Value) {c₀:Nat}
  (hint:∀ (Q:Bool→Shared→Prop) (E:Value→Shared→Prop),(∀ b tk,Q b { s with toks:=tk })→wpAny (model prog w) A.in1 (Builtin.List.listLengthHint (.ref I)) Q E s)
  (st:St 0 s.heap) (hSf:S ∉ fp) (hI:I ∈ fp) (hS:s.heap.get? S = some { cls:=.type "list",dict:=none,data:=.seq #[] c₀,slots:=#[] }) (hn:n ≤ sizeLine)
  (fin:∀ h' tk acc c,(∀ b o,b ∉ S :: wr→s.heap.get? b = some o→h'.get? b = some o)→h'.get? S = some { cls:=.type "list",dict:=none,data:=.seq acc c,slots:=#[] }→ItemsOf P acc n→R (.ok (.ret res)) { s with heap:=h',toks:=tk }) :
  wpAny (model prog w) A.in1 (Builtin.List.listExtendWith (.ref S) (.ref I) res)
   (fun f s' => match f with | .done f => R (.ok f) s' | .again c' => c'.quiet = true∧codeAny (model prog w) A c' R s') (fun e s' => R (.error e) s') s:=by
 have nSI:S ≠ I:=fun z => hSf (z ▸ hI)
 unfold Builtin.List.listExtendWith
 refine wpAny_bind (wpAny_typeOf ty ?_)
 have n1:Builtin.List.listSameRef (.ref S) (.ref I) = false:=by simp only [Builtin.List.listSameRef,beq_eq_false_iff_ne]; exact nSI
 simp only [n1,n2,n3,Bool.or_false,Bool.false_eq_true,if_false]
 refine wpAny_bind (W.self 0 s _ _ st ?_)
 refine wpAny_bind (wpAny_holding (hint _ _ fun b tk => ?_))
 have go:∀ (h1:Heap) (c1:Nat),(∀ b o,b ≠ S→s.heap.get? b = some o→h1.get? b = some o)→h1.get? S = some { cls:=.type "list",dict:=none,data:=.seq #[] c1,slots:=#[] } →
   codeAny (model prog w) A (.builtin "list.extend.loop" ⟨[.ref S,.ref I,res],[]⟩) R { s with heap:=h1,toks:=tk }:=fun h1 c1 k1 hS1 => by
  refine codeAny_extend_loopS W.toS hn S hSf res n 0 _ #[] c1 rfl (Nat.zero_le _) (W.frame 0 s.heap h1 st fun b hb o e => k1 b o (fun z => hSf (z ▸ hb)) e) hS1 (ItemsOf.nil P) fun s' acc c m q1 q2 => ?_
  obtain ⟨h',g',d',t',o'⟩:=s'
  obtain rfl:g' = s.gens:=m.gens
  obtain rfl:d' = s.drawn:=m.drawn
  obtain rfl:o' = s.os:=m.os
  exact fin h' t' acc c (fun b o hb e => m.heap b o hb (k1 b o (fun z => hb (z ▸ List.mem_cons_self)) e)) q1 q2
 split
 ·refine wpAny_bind (wpAny_rule (wpAny_bind (m:=Builtin.List.listTouch (.ref S)) ?_))
  change wpAny (model prog w) _ (updateSeq S (·.push .none) >>= fun _ => updateSeq S (·.pop)) _ _ _
  refine wpAny_bind (wpAny_updateSeq hS rfl ?_)
  have u1:=Heap.get?_update_self (Obj.mapSeq (·.push Value.none)) hS rfl
  refine wpAny_updateSeq (hz:=by seq_fits) u1 rfl ?_
  have u2:=Heap.get?_update_self (Obj.mapSeq (·.pop)) u1 rfl
  exact wpAny_pure ⟨plainId_quiet PySem.F.plain_extend_loop _,go _ _ (fun b o q e => (Heap.get?_update_other _ _ (Ne.symm q)).trans ((Heap.get?_update_other _ _ (Ne.symm q)).trans e)) u2⟩
 ·exact wpAny_pure ⟨plainId_quiet PySem.F.plain_extend_loop _,go _ _ (fun b o _ e => e) hS⟩
end
section
variable {prog:Program} {w:World} {A:Around} {E:Value→Shared→Prop} {s:Shared} {I:Addr} {fp wr:List Addr} {n:Nat} {P:Nat→Value→Prop} {St:Nat→Heap→Prop} {T:String}
theorem list_walk {Q:Value→Shared→Prop} (W:Walks prog w A.in1.in1 I fp wr n P St) (ty:s.TypeIs (.ref I) T) (n2:(Value.type T == Value.type "list") = false) (n3:(Value.type T == Value.type "tuple") = false)
  (hint:∀ (h':Heap) (tk:Nat) (Q:Bool→Shared→Prop) (E:Value→Shared→Prop),(∀ b o,s.heap.get? b = some o→h'.get? b = some o)→(∀ b tk,Q b { s with heap:=h',toks:=tk }) →
   wpAny (model prog w) A.in1.in1 (Builtin.List.listLengthHint (.ref I)) Q E { s with heap:=h',toks:=tk })
  (st:St 0 s.heap) (hfp:∀ b ∈ fp,b < s.heap.objs.size) (hI:I ∈ fp) (hn:n ≤ sizeLine)
  (fin:∀ h' tk acc c,(∀ b o,b ∉ wr→s.heap.get? b = some o→h'.get? b = some o)→h'.get? s.heap.objs.size = some { cls:=.type "list",dict:=none,data:=.seq acc c,slots:=#[] }→ItemsOf P acc n →
   Q (.ref s.heap.objs.size) { s with heap:=h',toks:=tk }):wpAny (model prog w) A (call (.type "list") [.ref I]) Q E s:=by
 have lt:∀ {c o},s.heap.get? c = some o→c ≠ s.heap.objs.size:=fun e => Nat.ne_of_lt (Heap.lt_size e)
 refine callType_codes (Q₁:=fun obj s₁ => obj = .ref s.heap.objs.size∧s₁ = { s with heap:=s.heap.push { cls:=.type "list",data:=.seq #[] } }) PySem.F.called_list (PySem.F.typeCall_list_1 _) PySem.F.entry_list_init
  (code_list_new _ ⟨rfl,rfl⟩) fun obj s₁ q => ?_
 obtain ⟨rfl,rfl⟩:=q
 have at1:(s.heap.push { cls:=.type "list",data:=.seq #[] }).get? s.heap.objs.size = some { cls:=.type "list",data:=.seq #[] }:=Heap.get?_push_size _ rfl
 refine ⟨⟨_,at1,rfl⟩,PySem.F.args_list_init_2 _ _, ?_⟩
 change wpAny _ _ (do let old ← Builtin.List.listItems (.ref s.heap.objs.size); Builtin.List.listUpdate (.ref s.heap.objs.size) (fun _ => #[]); letGo old.toList.reverse; Builtin.List.listExtendWith (.ref s.heap.objs.size) (.ref I) .none) _ _ _
 refine wpAny_bind ?_
 unfold Builtin.List.listItems
 refine wpAny_bind (wpAny_seqItems at1 rfl (wpAny_pure ?_))
 change wpAny _ _ (updateSeq s.heap.objs.size (fun _ => #[]) >>= fun _ => letGo (#[]:Array Value).toList.reverse >>= fun _ => Builtin.List.listExtendWith (.ref s.heap.objs.size) (.ref I) .none) _ _ _
 refine wpAny_bind (wpAny_updateSeq at1 rfl ?_)
 have at2:=Heap.get?_update_self (Obj.mapSeq (fun _ => (#[]:Array Value))) at1 rfl
 have oth:∀ b o,s.heap.get? b = some o→((s.heap.push { cls:=.type "list",data:=.seq #[] }).update s.heap.objs.size (Obj.mapSeq (fun _ => (#[]:Array Value)))).get? b = some o :=
  fun b o e => (Heap.get?_update_other _ _ (Ne.symm (lt e))).trans (Heap.get?_push_of_some _ e)
 refine wpAny_bind (wpAny_letGo ?_)
 obtain ⟨oI,hoI,hcI⟩:=id ty
 refine ext_walk (A:=A.in1) (s:={ s with heap:=_ }) (T:=T) W ⟨oI,oth _ _ hoI,hcI⟩ n2 n3 .none (fun Q E q => hint _ _ Q E oth q) (W.frame 0 s.heap _ st fun b _ o e => oth b o e) (fun z => Nat.lt_irrefl _ (hfp _ z)) hI at2 hn fun h' tk acc c k1 k2 k3 => ?_
 refine ⟨rfl,fin h' tk acc c (fun b o hb e => k1 b o (fun m => ?_) (oth b o e)) k2 k3⟩
 rcases List.mem_cons.mp m with m | m
 ·exact lt e m
 ·exact hb m
end
theorem lri_len:typeLookup (.type "list_reverseiterator") "__len__" = pure none:=by rw [typeLookup_type,builtinLookup_eq_fast]; kernel_rfl
theorem lri_hint:typeLookup (.type "list_reverseiterator") "__length_hint__" = pure (some (.builtin "list_reverseiterator.__length_hint__")):=by rw [typeLookup_type,builtinLookup_eq_fast]; kernel_rfl
theorem hint_lri {prog:Program} {w:World} {A:Around} {E:Value→Shared→Prop} {s:Shared} {I:Addr} {Q:Bool→Shared→Prop} (ty:s.TypeIs (.ref I) "list_reverseiterator") (h:Q false s) :
  wpAny (model prog w) A (Builtin.List.listLengthHint (.ref I)) Q E s:=by
 have f3:isSubtype (.type "list_reverseiterator") (.type "list_reverseiterator") = pure true:=by rw [isSubtype_type]; kernel_rfl
 have sp:splitId "list_reverseiterator.__length_hint__" = some ("list_reverseiterator","__length_hint__"):=by decide +kernel
 unfold Builtin.List.listLengthHint
 refine wpAny_bind (wpAny_specialOf ty lri_len ?_)
 wp_delta
 refine wpAny_ite_split (fun z => absurd z (by decide)) fun _ => ?_
 refine wpAny_bind (wpAny_specialOf ty lri_hint ?_)
 dsimp only
 rw [sp]
 dsimp only
 refine wpAny_bind ?_
 unfold isInstance
 refine wpAny_bind (wpAny_typeOf ty ?_)
 rw [f3]
 refine wpAny_pure ?_
 rw [if_neg (by decide)]
 refine wpAny_ite_split (fun _ => ?_) (fun z => absurd (by decide) z)
 refine wpAny_ite_split (fun z => absurd z (by decide)) fun _ => ?_
 exact wpAny_pure h
theorem rv_len:typeLookup (.type "reversed") "__len__" = pure none:=by rw [typeLookup_type,builtinLookup_eq_fast]; kernel_rfl
theorem rv_slot:Slot "reversed" "__length_hint__" "reversed.__length_hint__" :=
 .of (owner:="reversed") (n:="__length_hint__") (by rw [typeLookup_type,builtinLookup_eq_fast]; kernel_rfl) (by decide +kernel) (by decide +kernel) (by decide +kernel) (by first | exact .inl (by decide +kernel) | exact .inr (by decide +kernel)) (by rw [isSubtype_type]; kernel_rfl)
theorem rv_entry:entryFor table "reversed.__length_hint__" = some Builtin.«reversed.__length_hint__»:=entryFor_of_tree (by kernel_rfl)
theorem rv_args (a:Value):argsOk "reversed.__length_hint__" ⟨[a],[]⟩:=by unfold argsOk; kernel_rfl
section
variable {prog:Program} {w:World} {A:Around} {E:Value→Shared→Prop} {s:Shared} {r t:Addr} {its:Array Value}
theorem hint_rev {Q:Bool→Shared→Prop} (hr:IsRv s.heap r t ((its.size:Int) - 1)) (ht:IsTup s.heap t its) (hz:its.size ≤ sizeLine) (h:∀ b tk,Q b { s with toks:=tk }) :
  wpAny (model prog w) A (Builtin.List.listLengthHint (.ref r)) Q E s:=by
 have hL:=sizeLine_eq
 have f3:isSubtype (.type "reversed") (.type "reversed") = pure true:=PySem.F.sub_reversed_self
 have sp:splitId "reversed.__length_hint__" = some ("reversed","__length_hint__"):=by decide +kernel
 obtain ⟨o,ho,hc,hd⟩:=id hr
 unfold Builtin.List.listLengthHint
 refine wpAny_bind (wpAny_specialOf hr.ty rv_len ?_)
 wp_delta
 refine wpAny_ite_split (fun z => absurd z (by decide)) fun _ => ?_
 refine wpAny_bind (wpAny_specialOf hr.ty rv_slot.lookup ?_)
 dsimp only
 rw [sp]
 dsimp only
 refine wpAny_bind ?_
 unfold isInstance
 refine wpAny_bind (wpAny_typeOf hr.ty ?_)
 rw [f3]
 refine wpAny_pure ?_
 rw [if_neg (by decide)]
 refine wpAny_ite_split (fun z => absurd z (by decide)) (fun _ => ?_)
 refine wpAny_bind (wpAny_rule ?_)
 rw [rv_slot.bind]
 refine wpAny_bind (wpAny_pure (wpAny_bind (wpAny_attempt (wpAny_call_entry rv_slot hr.ty rv_entry ?_ (rv_args _)))))
 unfold Builtin.«reversed.__length_hint__»
 refine wpAny_bind (wpAny_of_eq (a:=Value.ref r) rfl (wpAny_bind (wpAny_field ho hd (x:=.ref t) rfl ?_)))
 rw [if_neg (show ¬ (Value.ref t == Value.none) = true from Bool.false_ne_true)]
 refine wpAny_bind (len_tuple ht (by omega) ?_)
 refine wpAny_bind (wpAny_of_eq (a:=some (its.size:Int)) rfl ?_)
 refine wpAny_bind (wpAny_field (s:={ s with toks:=_ }) ho hd (x:=rawInt ((its.size:Int) - 1)) rfl ?_)
 show wpAny _ _ (if (its.size:Int) < (its.size:Int) - 1 + 1 then _ else _) _ _ _
 rw [if_neg (by omega)]
 refine wpAny_bind (wpAny_mkInt (wpAny_pure ⟨_,rfl, ?_⟩))
 refine wpAny_bind (wpAny_of_eq (a:=some ((its.size:Int) - 1 + 1)) rfl ?_)
 have c1:Builtin.List.listFitsIndex ((its.size:Int) - 1 + 1) = true:=by
  unfold Builtin.List.listFitsIndex
  simp only [Bool.and_eq_true,decide_eq_true_eq]
  omega
 have c2:Builtin.List.listTooLong ((its.size:Int) - 1 + 1).toNat = false:=by
  unfold Builtin.List.listTooLong
  simp only [decide_eq_false_iff_not]
  omega
 show wpAny _ _ (if (!Builtin.List.listFitsIndex ((its.size:Int) - 1 + 1)) = true then _ else _) _ _ _
 rw [c1,if_neg (by decide),if_neg (by omega),c2,if_neg (by decide)]
 exact wpAny_pure (h _ _)
end
section
variable {prog:Program} {w:World} {A:Around} {E:Value→Shared→Prop} {s:Shared} {I:Addr} {fp wr:List Addr} {n:Nat} {P:Nat→Value→Prop} {St:Nat→Heap→Prop} {T:String}
theorem collect_walk {Q:List Value→Shared→Prop} (W:Walks prog w A.in1 I fp wr n P St) (ty:s.TypeIs (.ref I) T) (n2:(Value.type T == Value.type "list") = false) (n3:(Value.type T == Value.type "tuple") = false)
  (hint:∀ (h':Heap) (tk:Nat) (Q:Bool→Shared→Prop) (E:Value→Shared→Prop),(∀ b o,s.heap.get? b = some o→h'.get? b = some o)→(∀ b tk,Q b { s with heap:=h',toks:=tk }) →
   wpAny (model prog w) A.in1 (Builtin.List.listLengthHint (.ref I)) Q E { s with heap:=h',toks:=tk })
  (st:St 0 s.heap) (hfp:∀ b ∈ fp,b < s.heap.objs.size) (hI:I ∈ fp) (hn:n ≤ sizeLine)
  (fin:∀ h' tk acc,(∀ b o,b ∉ wr→s.heap.get? b = some o→h'.get? b = some o)→ItemsOf P acc n→Q acc.toList { s with heap:=h',toks:=tk }):wpAny (model prog w) A (collect (.ref I)) Q E s:=by
 have lt:∀ {c o},s.heap.get? c = some o→c ≠ s.heap.objs.size:=fun e => Nat.ne_of_lt (Heap.lt_size e)
 unfold collect
 refine wpAny_bind (wpAny_runValue (codeAny_builtin PySem.F.entry_proto_collect ?_))
 rw [Around.under_plainId PySem.F.plain_proto_collect _]
 show wpAny _ A.in1 (newList [] >>= fun l => again (.builtin "list.__iadd__" ⟨[l,.ref I],[]⟩)) _ _ s
 refine wpAny_bind (wpAny_newObj_type ?_)
 refine wpAny_pure ⟨plainId_quiet PySem.F.plain_list_iadd _,codeAny_builtin PySem.F.entry_list_iadd ?_⟩
 rw [Around.under_plainId PySem.F.plain_list_iadd _]
 show wpAny _ A.in1 (Builtin.List.listExtendWith (.ref s.heap.objs.size) (.ref I) (.ref s.heap.objs.size)) _ _ _
 have oth:∀ b o,s.heap.get? b = some o→(s.heap.push { cls:=.type "list",data:=.seq ([]:List Value).toArray }).get? b = some o:=fun b o e => Heap.get?_push_of_some _ e
 have at1:(s.heap.push { cls:=.type "list",data:=.seq ([]:List Value).toArray }).get? s.heap.objs.size = some { cls:=.type "list",data:=.seq ([]:List Value).toArray }:=Heap.get?_push_size _ rfl
 obtain ⟨oI,hoI,hcI⟩:=id ty
 let RR:Result→Shared→Prop:=fun r s' => match r with
  | .ok (.ret v) => wpAny (model prog w) A (match v with
    | .ref a => do
     let o ← load a
     match o.data with
      | .seq xs _ => pure xs.toList
      | _ => unsupported "internal:collect"
    | _ => unsupported "internal:collect") Q E s'
  | .ok _ => False
  | .error e => E e s'
 refine ext_walk (R:=RR) (A:=A) (s:={ s with heap:=_ }) (T:=T) W ⟨oI,oth _ _ hoI,hcI⟩ n2 n3 _ (fun Q E q => hint _ _ Q E oth q) (W.frame 0 s.heap _ st fun b _ o e => oth b o e) (fun z => Nat.lt_irrefl _ (hfp _ z)) hI at1 hn fun h' tk acc c k1 k2 k3 => ?_
 show wpAny _ A (load s.heap.objs.size >>= _) _ _ _
 refine wpAny_bind (wpAny_load k2 ?_)
 refine wpAny_pure (fin h' tk acc (fun b o hb e => k1 b o (fun m => ?_) (oth b o e)) k3)
 rcases List.mem_cons.mp m with m | m
 ·exact lt e m
 ·exact hb m
end
theorem meets_tuple_rev (I l:Addr) (items:Array Value) (hsz:items.size ≤ sizeLine) (hne:l ≠ I) :
  Meets (Builtin.«tuple.__new__» ⟨[.type "tuple",.ref I],[]⟩)
   (fun A R s => A.handled = none∧s.heap.IsRevIter I l ((items.size:Int) - 1)∧s.heap.IsList l items∧∀ (h':Heap) (tk:Nat) (acc:Array Value),(∀ b o,b ∉ [I]→s.heap.get? b = some o→h'.get? b = some o)→ItemsOf (fun i v => items[items.size - 1 - i]? = some v) acc items.size →
    R (.ok (.ret (.ref h'.objs.size))) { s with heap:=h'.push { cls:=.type "tuple",data:=.seq acc },toks:=tk }) :=
 .of_wp fun prog w A R s h => by
  obtain ⟨hh,hr,hl,h⟩:=h
  have hsub:=sub_tuple_self
  have hinit:=init_tuple_lookup
  have hmh:=madeHere_tuple
  have hT:s.TypeIs (.ref I) "list_reverseiterator" := hr.typeIs
  have hI:I < s.heap.objs.size:=by obtain ⟨o,ho,_⟩:=hr; exact Heap.lt_size ho
  have hL:l < s.heap.objs.size:=by obtain ⟨o,ho,_⟩:=hl; exact Heap.lt_size ho
  have col:∀ {Q:List Value→Shared→Prop} {E:Value→Shared→Prop},(∀ (h':Heap) (tk:Nat) (acc:Array Value),(∀ b o,b ∉ [I]→s.heap.get? b = some o→h'.get? b = some o)→ItemsOf (fun i v => items[items.size - 1 - i]? = some v) acc items.size→Q acc.toList { s with heap:=h',toks:=tk })→wpAny (model prog w) A.in1 (collect (.ref I)) Q E s:=fun {Q E} fin =>
   collect_walk (T:="list_reverseiterator") (Walks.listRev (A:=A.in1.in1) hh I l hne items) hT (by decide) (by decide) (fun h' tk Q E k q => hint_lri ((hr.at fun o e => k _ o e).typeIs (s:={ s with heap:=h',toks:=tk })) (q _ _))
    ⟨Nat.zero_le _,by simpa using hr,hl⟩ (fun b hb => by simp only [List.mem_cons,List.not_mem_nil,or_false] at hb; rcases hb with e | e <;> rw [e] <;> assumption) (by simp) hsz fin
  wp_walk using wpAny_typeOf hT,col
  intro h' tk acc hk hacc
  show wpAny _ _ (Builtin.Tuple.tupleExact acc.toList.toArray >>= fun v => ret v) _ _ _
  unfold Builtin.Tuple.tupleExact
  refine wpAny_bind (wpAny_newObj_type ?_ (show acc.toList.toArray.size ≤ sizeLine by simp only [Array.toArray_toList]; rw [hacc.1]; exact hsz))
  refine wpAny_pure ⟨_,rfl, ?_⟩
  have e:acc.toList.toArray = acc:=by simp
  rw [e]
  exact h h' tk acc hk hacc
section
variable {prog:Program} {w:World} {A:Around} {E:Value→Shared→Prop} {s:Shared}
theorem call_tuple_rev {I l:Addr} {items:Array Value} {Q:Value→Shared→Prop} (hh:A.handled = none) (hne:l ≠ I) (hsz:items.size ≤ sizeLine) (hr:s.heap.IsRevIter I l ((items.size:Int) - 1)) (hl:s.heap.IsList l items)
  (h:∀ (h':Heap) (tk:Nat) (acc:Array Value),(∀ b o,b ∉ [I]→s.heap.get? b = some o→h'.get? b = some o)→ItemsOf (fun i v => items[items.size - 1 - i]? = some v) acc items.size→Q (.ref h'.objs.size) { s with heap:=h'.push { cls:=.type "tuple",data:=.seq acc },toks:=tk }) :
  wpAny (model prog w) A (call (.type "tuple") [.ref I]) Q E s:=by
 refine callType_new PySem.F.called_tuple (by decide) (PySem.F.typeCall_tuple_1 _) (PySem.F.newCall_tuple_1 _) (fun obj => PySem.F.args_object_init_2 obj _) PySem.F.entry_tuple_new
  (meets_tuple_rev I l items hsz hne) ⟨hh,hr,hl,fun h' tk acc hk hacc => ⟨⟨_,Heap.get?_push_size _ rfl,rfl⟩,h h' tk acc hk hacc⟩⟩
end
end RevA
namespace IdxT
open PySem PySem.SeqAt PySem.MeetsSeq
open PySem.AutoSeq1 (wpAny_loadPart')
theorem wpAny_forIn_rng {M:Model} {A:Around} {E:Value→Shared→Prop} {s:Shared} {β:Type} (f:Nat→β→Sem (ForInStep β)) (I:List Nat→β→Shared→Prop) (Q:β→Shared→Prop)
  (turn:∀ x Vz b s,I (x :: Vz) b s→wpAny M A (f x b) (fun r s' => match r with | .yield b' => I Vz b' s' | .done b' => Q b' s') E s)
  (fin:∀ b s,I [] b s→Q b s) (k:Nat) (b:β) (h:I (List.range' 0 k) b s):wpAny M A (forIn [0:k] b f) Q E s:=by
 rw [Std.Legacy.Range.forIn_eq_forIn_range']
 have e:List.range' ([0:k]:Std.Legacy.Range).start ([0:k]:Std.Legacy.Range).size ([0:k]:Std.Legacy.Range).step = List.range' 0 k:=by simp [Std.Legacy.Range.size]
 rw [e]
 exact wpAny_forIn_list f I Q turn fin _ b h
theorem tuple_index (l:Addr) (items:Array Value) (n:Nat) (dd:Option Addr) (sl:Array (Option Value)) (x:Value) (e:Value→Bool) (j:Nat) (hj:j < items.size) (hit:e items[j] = true) (hno:∀ m (hm:m < items.size),m < j→e items[m] = false) :
  Meets (Builtin.«tuple.index» ⟨[.ref l,x],[]⟩)
   (fun A R s => s.heap.get? l = some { cls:=.type "tuple",dict:=dd,data:=.seq items n,slots:=sl }∧(∀ y,y ∈ items→EqAt A.in1 s y x (e y))∧R (.ok (.ret (.int j s.toks))) { s with toks:=s.toks + 1 }) :=
 .of_wp fun prog w A R s h => by
  obtain ⟨hp,g,d,tk,os⟩:=s; obtain ⟨hl,he,h⟩:=h
  wp_walk using wpAny_loadPart' hl,wpAny_forIn_rng _ (fun Vz b s' => b.1 = none∧s' = ⟨hp,g,d,tk,os⟩∧∃ i,i ≤ j∧Vz = List.range' i (items.size - i)) _
  case turn =>
   rintro y Vz b s' ⟨hb,rfl,i,hi,er⟩
   have hlt:i < items.size:=by omega
   rw [show items.size - i = (items.size - (i + 1)) + 1 by omega,List.range'_succ] at er
   injection er with e1 e2
   subst e1
   have hx:items[y]? = some items[y]:=Array.getElem?_eq_getElem hlt
   rw [hx]
   refine wpAny_bind (he _ (Array.getElem_mem hlt) prog w _ _ ?_)
   by_cases hy:y = j
   ·subst hy
    rw [hit]
    wp_walk
    exact ⟨_,rfl,h⟩
   ·rw [hno y hlt (by omega)]
    wp_walk
    exact ⟨rfl,rfl,y + 1,by omega,e2⟩
  case fin =>
   rintro ⟨b1,b2⟩ s' ⟨hb,rfl,i,hi,er⟩
   exfalso
   have:=congrArg List.length er
   simp at this
   omega
  case h =>
   refine ⟨rfl,rfl,0,Nat.zero_le _, ?_⟩
   simp
end IdxT
namespace L2
open PySem PySem.Spec PyProof.Rows
theorem items_rev {its acc:Array Value} (h:ItemsOf (fun i v => its[its.size - 1 - i]? = some v) acc its.size):acc.toList = its.toList.reverse:=by
 refine List.ext_getElem? fun i => ?_
 by_cases hi:i < its.size
 ·have ha:i < acc.size:=by rw [h.1]; exact hi
  have e:=h.2 i _ (Array.getElem?_eq_getElem ha)
  rw [Array.getElem?_toList,Array.getElem?_eq_getElem ha, ← e,List.getElem?_reverse (by simpa using hi),Array.getElem?_toList,Array.length_toList]
 ·rw [List.getElem?_eq_none (by rw [Array.length_toList,h.1]; omega),List.getElem?_eq_none (by rw [List.length_reverse,Array.length_toList]; omega)]
def tRevT (K:W.Frag) (t:TA):TE:=fun σ H Q => t σ H fun vs H1 => ∃ p xs,vs = [.ref p]∧Z9 K H1 p xs∧∀ q,H1 q = none→Q (.ref q) (Z4 H1 q (.lst xs.reverse))
def tRevL (K:W.Frag) (t:TA):TE:=fun σ H Q => t σ H fun vs H1 => ∃ p xs,vs = [.ref p]∧Ym K H1 p xs∧∀ q,H1 q = none→Q (.ref q) (Z4 H1 q (.lst xs.reverse))
section
variable {X:Cx} {p p2 pos pos2:Pos} {a:Expr} {t:TA}
theorem pe_listRevT (hc:X.calm = true) (hg:Gl X "list") (hm:X.mg "list" = none) (hgz:Gl X "reversed") (hmz:X.mg "reversed" = none) (ha:PA X [a] t)
  (he:starEach [.Call (.Name "reversed" p2) [a] [] pos2] X.env = [(false,eval (.Call (.Name "reversed" p2) [a] [] pos2) X.env)]:=by rfl)
  (he2:starEach [a] X.env = (false,eval a X.env) :: starEach [] X.env:=by rfl) (hpl:(backTo pos2 (starEach [] X.env)).any (·.1) = false:=by rfl) :
  PE X (.Call (.Name "list" p) [.Call (.Name "reversed" p2) [a] [] pos2] [] pos) (tRevT X.K t):=by
 intro pins s σ H Q I h
 refine wpAny_Call_Name_kw (V7 I hg hm (by decide +kernel:bootBuiltins "list" = some (.type "list")) ?_ (by decide) (by decide))
 refine callWith_type1 ?_ he rfl
 rw [he]
 change wpAny _ _ (spliced ((false,eval (.Call (.Name "reversed" p2) [a] [] pos2) X.env) :: [])) _ _ s
 refine Calls.spliced_cons ?_
 refine wpAny_Call_Name_kw (V7 I hgz hmz (by decide +kernel:bootBuiltins "reversed" = some (.type "reversed")) ?_ (by decide) (by decide))
 refine callWith_type1 (Y9 (ha pos2 pins s σ H _ I h) fun us s1 ⟨vs,H1,I1,r1,q1⟩ => ?_) he2 hpl
 obtain ⟨l,xs,rfl,hx,q⟩:=q1
 obtain ⟨u1,rfl,e1⟩:=vals1 r1
 cases e1
 obtain ⟨its,rv,pl,z⟩:=I1.tuple hx
 have hz:its.toArray.size ≤ sizeLine:=by rw [List.size_toArray, ← rv.length]; exact z
 have h63:((its.toArray.size:Nat):Int) < 2 ^ 63:=by have:=sizeLine_eq; omega
 refine RevA.call_rev pl h63 fun tk => ?_
 refine Calls.spliced_nil ?_
 have hl:l < s1.heap.objs.size:=pl.lt
 have nl:l ≠ s1.heap.objs.size:=Nat.ne_of_lt hl
 have k1:∀ b o,s1.heap.get? b = some o→(s1.heap.push (RevA.rvO l ((its.toArray.size:Int) - 1))).get? b = some o:=fun b o e => Heap.get?_push_of_some _ e
 have rv1:RevA.IsRv (s1.heap.push (RevA.rvO l ((its.toArray.size:Int) - 1))) s1.heap.objs.size l ((its.toArray.size:Int) - 1):=⟨_,Heap.get?_push_size _ rfl,rfl,rfl⟩
 have pl1:=RevA.tup_at pl fun o e => k1 l o e
 refine RevA.list_walk (s:={ s1 with heap:=_,toks:=tk }) (T:="reversed") (RevA.walks (t:=l) (r:=s1.heap.objs.size) (its:=its.toArray) (I1.ok.hd hc) nl h63) rv1.ty (by decide) (by decide)
  (fun h' tk' Q E k q => RevA.hint_rev (rv1.at fun o e => k _ o e) (RevA.tup_at pl1 fun o e => k _ o e) hz q) ⟨Nat.zero_le _,by simpa using rv1,pl1⟩ (fun b hb => ?_) (by simp) hz fun h3 tk3 acc c k3 at3 it3 => ?_
 ·simp only [List.mem_cons,List.not_mem_nil,or_false] at hb
  rw [Heap.size_push]
  rcases hb with e | e
  ·rw [e]; exact Nat.lt_succ_self _
  ·rw [e]; exact Nat.lt_succ_of_lt hl
 have kk:∀ b o,s1.heap.get? b = some o→h3.get? b = some o:=fun b o e => k3 b o (by simp only [List.mem_cons,List.not_mem_nil,or_false]; exact Nat.ne_of_lt (Heap.lt_size e)) (k1 b o e)
 have eacc:acc = (its.reverse).toArray:=by
  have:=items_rev it3
  apply Array.ext'
  simpa using this
 rw [eacc] at at3
 dsimp only at at3
 rw [Heap.size_push] at at3 ⊢
 exact ⟨.ref _,_,I1.laid (a:=s1.heap.objs.size + 1) (o:=.lst xs.reverse) (t':=tk3) kk (Nat.le_succ _) ⟨by rw [List.length_reverse]; exact z,its.reverse,c,Z2.rev rv,at3⟩,rfl,q _ (I1.hok.fresh (Nat.le_succ _))⟩
theorem pe_listRevL (hc:X.calm = true) (hg:Gl X "list") (hm:X.mg "list" = none) (hgz:Gl X "reversed") (hmz:X.mg "reversed" = none) (ha:PA X [a] t)
  (he:starEach [.Call (.Name "reversed" p2) [a] [] pos2] X.env = [(false,eval (.Call (.Name "reversed" p2) [a] [] pos2) X.env)]:=by rfl)
  (he2:starEach [a] X.env = (false,eval a X.env) :: starEach [] X.env:=by rfl) (hpl:(backTo pos2 (starEach [] X.env)).any (·.1) = false:=by rfl) :
  PE X (.Call (.Name "list" p) [.Call (.Name "reversed" p2) [a] [] pos2] [] pos) (tRevL X.K t):=by
 intro pins s σ H Q I h
 refine wpAny_Call_Name_kw (V7 I hg hm (by decide +kernel:bootBuiltins "list" = some (.type "list")) ?_ (by decide) (by decide))
 refine callWith_type1 ?_ he rfl
 rw [he]
 change wpAny _ _ (spliced ((false,eval (.Call (.Name "reversed" p2) [a] [] pos2) X.env) :: [])) _ _ s
 refine Calls.spliced_cons ?_
 refine wpAny_Call_Name_kw (V7 I hgz hmz (by decide +kernel:bootBuiltins "reversed" = some (.type "reversed")) ?_ (by decide) (by decide))
 refine callWith_type1 (Y9 (ha pos2 pins s σ H _ I h) fun us s1 ⟨vs,H1,I1,r1,q1⟩ => ?_) he2 hpl
 obtain ⟨l,xs,rfl,hx,q⟩:=q1
 obtain ⟨u1,rfl,e1⟩:=vals1 r1
 cases e1
 obtain ⟨its,rv,pl,z⟩:=I1.list hx
 have hz:its.toArray.size ≤ sizeLine:=by rw [List.size_toArray, ← rv.length]; exact z
 have h63:((its.toArray.size:Nat):Int) < 2 ^ 63:=by have:=sizeLine_eq; omega
 refine call_reversed_list pl.isList ?_
 refine Calls.spliced_nil ?_
 have hl:l < s1.heap.objs.size:=by obtain ⟨_,e,_⟩:=pl.isList; exact Heap.lt_size e
 have nl:l ≠ s1.heap.objs.size:=Nat.ne_of_lt hl
 have k1:∀ b o,s1.heap.get? b = some o→(s1.heap.push (revObj l ((its.toArray.size:Int) - 1))).get? b = some o:=fun b o e => Heap.get?_push_of_some _ e
 have rv1:Heap.IsRevIter (s1.heap.push (revObj l ((its.toArray.size:Int) - 1))) s1.heap.objs.size l ((its.toArray.size:Int) - 1):=⟨_,Heap.get?_push_size _ rfl,rfl,rfl⟩
 have pl1:=pl.isList.at (h':=s1.heap.push (revObj l ((its.toArray.size:Int) - 1))) fun o e => k1 l o e
 refine RevA.list_walk (s:={ s1 with heap:=_ }) (T:="list_reverseiterator") (Walks.listRev (A:=X.A.in1.in1) (show X.A.in1.in1.handled = none from I1.ok.hd hc) s1.heap.objs.size l nl its.toArray) (rv1.typeIs (s:={ s1 with heap:=_ })) (by decide) (by decide)
  (fun h' tk' Q E k q => RevA.hint_lri ((rv1.at fun o e => k _ o e).typeIs (s:={ s1 with heap:=h',toks:=tk' })) (q _ _)) ⟨Nat.zero_le _,by simpa using rv1,pl1⟩ (fun b hb => ?_) (by simp) hz fun h3 tk3 acc c k3 at3 it3 => ?_
 ·simp only [List.mem_cons,List.not_mem_nil,or_false] at hb
  rw [Heap.size_push]
  rcases hb with e | e
  ·rw [e]; exact Nat.lt_succ_self _
  ·rw [e]; exact Nat.lt_succ_of_lt hl
 have kk:∀ b o,s1.heap.get? b = some o→h3.get? b = some o:=fun b o e => k3 b o (by simp only [List.mem_cons,List.not_mem_nil,or_false]; exact Nat.ne_of_lt (Heap.lt_size e)) (k1 b o e)
 have eacc:acc = (its.reverse).toArray:=by
  have:=items_rev it3
  apply Array.ext'
  simpa using this
 rw [eacc] at at3
 dsimp only at at3
 rw [Heap.size_push] at at3 ⊢
 exact ⟨.ref _,_,I1.laid (a:=s1.heap.objs.size + 1) (o:=.lst xs.reverse) (t':=tk3) kk (Nat.le_succ _) ⟨by rw [List.length_reverse]; exact z,its.reverse,c,Z2.rev rv,at3⟩,rfl,q _ (I1.hok.fresh (Nat.le_succ _))⟩
end
section
variable {X:Cx} {e:Expr} {t1 t2:TE}
theorem PE.or (h1:PE X e t1) (h2:PE X e t2):PE X e (fun σ H Q => t1 σ H Q ∨ t2 σ H Q):=by
 intro pins s σ H Q I h
 rcases h with h | h
 ·exact h1 pins s σ H Q I h
 ·exact h2 pins s σ H Q I h
end
section
variable {X:Cx} {p p2 pos pos2:Pos} {a:Expr} {t:TA}
theorem pe_listRev (hc:X.calm = true) (hg:Gl X "list") (hm:X.mg "list" = none) (hgz:Gl X "reversed") (hmz:X.mg "reversed" = none) (ha:PA X [a] t)
  (he:starEach [.Call (.Name "reversed" p2) [a] [] pos2] X.env = [(false,eval (.Call (.Name "reversed" p2) [a] [] pos2) X.env)]:=by rfl)
  (he2:starEach [a] X.env = (false,eval a X.env) :: starEach [] X.env:=by rfl) (hpl:(backTo pos2 (starEach [] X.env)).any (·.1) = false:=by rfl) :
  PE X (.Call (.Name "list" p) [.Call (.Name "reversed" p2) [a] [] pos2] [] pos) (fun σ H Q => tRevT X.K t σ H Q ∨ tRevL X.K t σ H Q) :=
 PE.or (pe_listRevT hc hg hm hgz hmz ha he he2 hpl) (pe_listRevL hc hg hm hgz hmz ha he he2 hpl)
def tTupRev (K:W.Frag) (t:TA):TE:=fun σ H Q => t σ H fun vs H1 => ∃ p xs,vs = [.ref p]∧Ym K H1 p xs∧∀ q,H1 q = none→Q (.ref q) (Z4 H1 q (.tup xs.reverse))
theorem pe_tupRev (hc:X.calm = true) (hg:Gl X "tuple") (hm:X.mg "tuple" = none) (hgz:Gl X "reversed") (hmz:X.mg "reversed" = none) (ha:PA X [a] t)
  (he:starEach [.Call (.Name "reversed" p2) [a] [] pos2] X.env = [(false,eval (.Call (.Name "reversed" p2) [a] [] pos2) X.env)]:=by rfl)
  (he2:starEach [a] X.env = (false,eval a X.env) :: starEach [] X.env:=by rfl) (hpl:(backTo pos2 (starEach [] X.env)).any (·.1) = false:=by rfl) :
  PE X (.Call (.Name "tuple" p) [.Call (.Name "reversed" p2) [a] [] pos2] [] pos) (tTupRev X.K t):=by
 intro pins s σ H Q I h
 refine wpAny_Call_Name_kw (V7 I hg hm (by decide +kernel:bootBuiltins "tuple" = some (.type "tuple")) ?_ (by decide) (by decide))
 refine callWith_type1 ?_ he rfl
 rw [he]
 change wpAny _ _ (spliced ((false,eval (.Call (.Name "reversed" p2) [a] [] pos2) X.env) :: [])) _ _ s
 refine Calls.spliced_cons ?_
 refine wpAny_Call_Name_kw (V7 I hgz hmz (by decide +kernel:bootBuiltins "reversed" = some (.type "reversed")) ?_ (by decide) (by decide))
 refine callWith_type1 (Y9 (ha pos2 pins s σ H _ I h) fun us s1 ⟨vs,H1,I1,r1,q1⟩ => ?_) he2 hpl
 obtain ⟨l,xs,rfl,hx,q⟩:=q1
 obtain ⟨u1,rfl,e1⟩:=vals1 r1
 cases e1
 obtain ⟨its,rv,pl,z⟩:=I1.list hx
 have hz:its.toArray.size ≤ sizeLine:=by rw [List.size_toArray, ← rv.length]; exact z
 refine call_reversed_list pl.isList ?_
 refine Calls.spliced_nil ?_
 have hl:l < s1.heap.objs.size:=by obtain ⟨_,e,_⟩:=pl.isList; exact Heap.lt_size e
 have nl:l ≠ s1.heap.objs.size:=Nat.ne_of_lt hl
 have k1:∀ b o,s1.heap.get? b = some o→(s1.heap.push (revObj l ((its.toArray.size:Int) - 1))).get? b = some o:=fun b o e => Heap.get?_push_of_some _ e
 have rv1:Heap.IsRevIter (s1.heap.push (revObj l ((its.toArray.size:Int) - 1))) s1.heap.objs.size l ((its.toArray.size:Int) - 1):=⟨_,Heap.get?_push_size _ rfl,rfl,rfl⟩
 have pl1:=pl.isList.at (h':=s1.heap.push (revObj l ((its.toArray.size:Int) - 1))) fun o e => k1 l o e
 refine RevA.call_tuple_rev (s:={ s1 with heap:=_ }) (A:=X.A) (I1.ok.hd hc) nl hz rv1 pl1 fun h3 tk3 acc k3 it3 => ?_
 have kk:∀ b o,s1.heap.get? b = some o→h3.get? b = some o:=fun b o e => k3 b o (by simp only [List.mem_cons,List.not_mem_nil,or_false]; exact Nat.ne_of_lt (Heap.lt_size e)) (k1 b o e)
 have eacc:acc = (its.reverse).toArray:=by
  have:=items_rev it3
  apply Array.ext'
  simpa using this
 have J:Zo X pins σ H1 { s1 with heap:=h3,toks:=tk3 }:=I1.kept kk
 rw [eacc]
 exact ⟨.ref _,_,J.laid (a:=h3.objs.size) (o:=.tup xs.reverse) (t':=tk3) (fun b o e => Heap.get?_push_of_some _ e) (Nat.le_refl _) ⟨by rw [List.length_reverse]; exact z,its.reverse,Z2.rev rv,IsTup.new _ _⟩,rfl,q _ (J.hok.fresh (Nat.le_refl _))⟩
def Irv (K:W.Frag) (a:Addr) (xs:List V):It:=⟨fun i H => i < xs.length∧Z9 K H a xs,fun i H x H' => H' = H∧xs.reverse[i]? = some x,fun i H => xs.length ≤ i⟩
theorem turn_rev {P:Program} {w:World} {K:W.Frag} {tg:Expr} (a it:Addr) (xs:List V) (hz:xs.length ≤ sizeLine):Turn P w K tg (Irv K a xs) [it] it (fun i h => i ≤ xs.length∧RevA.IsRv h it a ((xs.length:Int) - 1 - (i:Int))) where
 mem:=by simp
 obj:=fun i h st b hb => by
  have e:b = it:=by simpa using hb
  subst e
  obtain ⟨_,o,e,c,d⟩:=st
  exact ⟨o,e,fun v z => by rw [d] at z; cases z⟩
 keep:=fun i h h' st k => ⟨st.1,st.2.at fun o e => k it (by simp) o e⟩
 item:=by
  intro X hP hw hK hc i pins s σ H E I hf st hg
  subst hP hw hK
  obtain ⟨hi,hq⟩:=hg
  obtain ⟨its,rv,p,_⟩:=I.tuple hq
  have hl:=rv.length
  have hsz:its.toArray.size = xs.length:=by rw [List.size_toArray]; exact hl.symm
  obtain ⟨f0,f1,f2,f3,f4,f5⟩:=hf it (by simp)
  have hr:=st.2
  rw [show (xs.length:Int) - 1 - (i:Int) = ((xs.length - 1 - i:Nat):Int) by omega] at hr
  have hx:xs[xs.length - 1 - i]? = some (xs[xs.length - 1 - i]'(by omega)):=List.getElem?_eq_getElem (by omega)
  obtain ⟨u,hu,ru⟩:=rv.get hx
  have h63:((its.toArray.size:Nat):Int) < 2 ^ 63:=by have:=sizeLine_eq; omega
  refine RevA.next_item hr p (x:=u) (by simpa using hu) h63 fun h' tk hr' hs => ?_
  have I1:Zo X pins σ H { s with heap:=h',toks:=tk }:=I.turned (fun b o hb e => (hs.2 b hb).trans e) f0 f1 f3 f4 f5
  obtain ⟨o,e,c,d⟩:=id hr'
  rw [show ((xs.length - 1 - i:Nat):Int) - 1 = (xs.length:Int) - 1 - ((i + 1:Nat):Int) by omega] at hr'
  refine ⟨u,rfl,go_of (s:={ s with heap:=h',toks:=tk }) e c d (by decide) ⟨_,H,I1,ru,⟨rfl, ?_⟩,⟨hi,hr'⟩,fun b hb => (hf b hb).1⟩⟩
  rw [List.getElem?_reverse hi]
  exact hx
 done:=by
  intro X hP hw hK hc i pins s σ H E I hf st hg
  subst hP hw hK
  obtain ⟨f0,f1,f2,f3,f4,f5⟩:=hf it (by simp)
  have hr:=st.2
  have hi:(i:Int) = xs.length:=by have:xs.length ≤ i:=hg; have:=st.1; omega
  rw [show (xs.length:Int) - 1 - (i:Int) = -1 by omega] at hr
  exact RevA.next_end (I.ok.hd hc) hr fun h' k => ⟨rfl,I.turned (t':=s.toks) (fun b o hb e => k b o hb e) f0 f1 f3 f4 f5⟩
 self:=fun _ _ _ _ _ st h => RevA.iter_self st.2 h
def iRev (K:W.Frag) (t:TA):TI:=fun σ H R => t σ H fun vs H1 => ∃ p xs,vs = [.ref p]∧Z9 K H1 p xs∧R (Irv K p xs) H1
theorem pi_rev {tg:Expr} (hgz:Gl X "reversed") (hmz:X.mg "reversed" = none) (ha:PA X [a] t)
  (he2:starEach [a] X.env = (false,eval a X.env) :: starEach [] X.env:=by rfl) (hpl:(backTo pos2 (starEach [] X.env)).any (·.1) = false:=by rfl) :
  PI X tg (.Call (.Name "reversed" p2) [a] [] pos2) (iRev X.K t):=by
 intro pins s σ H R I h
 refine wpAny_Call_Name_kw (V7 I hgz hmz (by decide +kernel:bootBuiltins "reversed" = some (.type "reversed")) ?_ (by decide) (by decide))
 refine callWith_type1 (Y9 (ha pos2 pins s σ H _ I h) fun us s1 ⟨vs,H1,I1,r1,q1⟩ => ?_) he2 hpl
 obtain ⟨l,xs,rfl,hx,q⟩:=q1
 obtain ⟨u1,rfl,e1⟩:=vals1 r1
 cases e1
 obtain ⟨its,rv,pl,z⟩:=I1.tuple hx
 have hl:=rv.length
 have hsz:its.toArray.size = xs.length:=by rw [List.size_toArray]; exact hl.symm
 have h63:((its.toArray.size:Nat):Int) < 2 ^ 63:=by have:=sizeLine_eq; omega
 refine RevA.call_rev pl h63 fun tk => ?_
 have J:Zo X pins σ H1 { s1 with heap:=s1.heap.push (RevA.rvO l ((its.toArray.size:Int) - 1)),toks:=tk }:=I1.kept fun b o e => Heap.get?_push_of_some _ e
 have rv1:RevA.IsRv (s1.heap.push (RevA.rvO l ((its.toArray.size:Int) - 1))) s1.heap.objs.size l ((its.toArray.size:Int) - 1):=⟨_,Heap.get?_push_size _ rfl,rfl,rfl⟩
 refine RevA.iter_self (s:={ s1 with heap:=_,toks:=tk }) rv1 ?_
 refine ⟨_,[s1.heap.objs.size],_,_,H1,rfl,J,turn_rev l _ xs z,⟨Nat.zero_le _, ?_⟩,fun b hb => ?_,q⟩
 ·rw [hsz] at rv1
  simpa [hsz] using rv1
 ·have e:b = s1.heap.objs.size:=by simpa using hb
  subst e
  exact I1.fpOk (Nat.le_refl _) (I1.hok.fresh (Nat.le_refl _))
end
theorem for_rev {K:W.Frag} {a:Addr} {xs:List V} {g:TG} {tb:TS} {D:Ends} {σ:St} {H:Hp} (Pv:Nat→St→Hp→Prop) (h0:Pv 0 σ H) (hl:∀ i σ H,i ≤ xs.length→Pv i σ H→Z9 K H a xs)
  (hs:∀ i x σ H,xs.reverse[i]? = some x→Pv i σ H→g x σ H fun σ2 H2 => tb { D with nx:=Pv (i + 1),ct:=Pv (i + 1),bk:=D.nx } σ2 H2) (hd:∀ σ H,Pv xs.length σ H→D.nx σ H) :
  ∃ W:Nat→Nat→St→Hp→Prop,(∃ m,W 0 m σ H)∧∀ i m σ H,W i m σ H →
   ((Irv K a xs).stop i H∧D.nx σ H) ∨ ((Irv K a xs).go i H∧∃ N:St→Hp→Prop,(∀ σ' H',N σ' H'→∃ m',m' < m∧W (i + 1) m' σ' H')∧∀ x H',(Irv K a xs).yld i H x H'→g x σ H' fun σ2 H2 => tb { D with nx:=N,ct:=N,bk:=D.nx } σ2 H2):=by
 refine ⟨fun i m σ H => m = xs.length - i∧i ≤ xs.length∧Pv i σ H,⟨xs.length,by simp,Nat.zero_le _,h0⟩, ?_⟩
 rintro i m σ H ⟨rfl,hi,p⟩
 have q:=hl i σ H hi p
 by_cases hlt:i < xs.length
 ·refine .inr ⟨⟨hlt,q⟩,Pv (i + 1),fun σ' H' p' => ⟨xs.length - (i + 1),by omega,rfl,hlt,p'⟩,fun x H' y => ?_⟩
  obtain ⟨e,y⟩:=y
  subst e
  exact hs i x σ _ y p
 ·have e:i = xs.length:=by omega
  subst e
  exact .inl ⟨Nat.le_refl _,hd σ H p⟩
section
variable {X:Cx}
theorem eqStrs {ss:List Str} {us:List Value} (r:Z2 (ss.map V.str) us):∀ y ∈ us,∃ x t,x ∈ ss∧y = .str x t:=by
 induction ss generalizing us with
 | nil => intro y m; cases r; exact (List.not_mem_nil m).elim
 | cons x ss ih =>
  intro y m
  cases r with
  | cons e t =>
   obtain ⟨tk,rfl⟩:=e
   rcases List.mem_cons.mp m with rfl | m
   ·exact ⟨x,tk,List.mem_cons_self,rfl⟩
   ·obtain ⟨x',t',mx,e⟩:=ih t y m
    exact ⟨x',t',List.mem_cons_of_mem _ mx,e⟩
def isS (z:Str) (v:Value):Bool:=match v with
 | .str x _ => decide (x = z)
 | _ => false
theorem isS_at {ss:List Str} {us:List Value} (r:Z2 (ss.map V.str) us) {m:Nat} (h:m < us.length) (z:Str):isS z us[m] = decide (ss[m]? = some z):=by
 have hl:m < ss.length:=by have:=r.length; rw [List.length_map] at this; omega
 obtain ⟨u,e,q⟩:=r.get (i:=m) (x:=.str ss[m]) (by rw [List.getElem?_map,List.getElem?_eq_getElem hl]; rfl)
 rw [List.getElem?_eq_getElem h] at e
 cases e
 obtain ⟨t,e2⟩:=q
 rw [e2,List.getElem?_eq_getElem hl]
 show decide (ss[m] = z) = _
 simp
def rIndex (Sq:Hp→Addr→List V→Prop):V→List V→Hp→VK→Prop:=fun x xs H Q => ∃ (a:Addr) (ss:List Str) (z:Str) (j:Nat),x = .ref a∧xs = [.str z]∧Sq H a (ss.map V.str)∧ss[j]? = some z∧(∀ m,m < j→ss[m]? ≠ some z)∧Q (.int j) H
theorem mt_indexT:MtM X "tuple.index" (rIndex (Z9 X.K)):=by
 intro pins s σ H x vs v us Q I rx rv h
 obtain ⟨a,ss,z,j,rfl,rfl,hq,hj,hno,q⟩:=h
 cases rx
 obtain ⟨u,rfl,ru⟩:=rv.one
 obtain ⟨tz,rfl⟩:=ru
 obtain ⟨its,r,⟨⟨cl,dd,dt,sl⟩,e,hc,n,hd⟩,hz⟩:=I.tuple hq
 simp only at hc hd
 subst hc hd
 have hl:=r.length
 rw [List.length_map] at hl
 have hjl:=(List.getElem?_eq_some_iff.mp hj).1
 refine call_meets PySem.F.slot_tuple_index ⟨_,e,rfl⟩ PySem.F.entry_tuple_index (PySem.F.args_tuple_index_2 _ _) (IdxT.tuple_index a its.toArray n dd sl (.str z tz) (isS z) j (by simp; omega) ?_ fun m hm h2 => ?_) ⟨e,fun y hy => ?_,⟨.int j,H,I.tok _,⟨_,rfl⟩,q⟩⟩
 ·have:=isS_at r (m:=j) (by omega) z
  simp only [List.getElem_toArray]
  rw [this,decide_eq_true hj]
 ·have:=isS_at r (m:=m) (by simpa using hm) z
  simp only [List.getElem_toArray]
  rw [this,decide_eq_false (hno m h2)]
 ·obtain ⟨x,t,_,rfl⟩:=eqStrs r y (by simpa using hy)
  exact fun prog w E Q hq => wpAny_eqBool_str hq
theorem mt_indexL:MtM X "list.index" (rIndex (Ym X.K)):=by
 intro pins s σ H x vs v us Q I rx rv h
 obtain ⟨a,ss,z,j,rfl,rfl,hq,hj,hno,q⟩:=h
 cases rx
 obtain ⟨u,rfl,ru⟩:=rv.one
 obtain ⟨tz,rfl⟩:=ru
 obtain ⟨its,r,pl,hz⟩:=I.list hq
 obtain ⟨⟨cl,dd,dt,sl⟩,e,hc,n,hd⟩:=pl.isList
 simp only at hc hd
 subst hc hd
 have hl:=r.length
 rw [List.length_map] at hl
 have hjl:=(List.getElem?_eq_some_iff.mp hj).1
 rw [List.length_map] at hz
 have hsm:(j:Int) < 2 ^ 63 - 1:=by have:=sizeLine_eq; omega
 refine call_meets PySem.F.slot_list_index ⟨_,e,rfl⟩ PySem.F.entry_list_index (PySem.F.args_list_index_2 _ _) (SeqAt.list_indexAt a its.toArray n dd sl (.str z tz) (isS z) j (by simp; omega) hsm ?_ fun m hm h2 => ?_) ⟨e,fun y hy => ?_,⟨.int j,H,I.tok _,⟨_,rfl⟩,q⟩⟩
 ·have:=isS_at r (m:=j) (by omega) z
  simp only [List.getElem_toArray]
  rw [this,decide_eq_true hj]
 ·have:=isS_at r (m:=m) (by simpa using hm) z
  simp only [List.getElem_toArray]
  rw [this,decide_eq_false (hno m h2)]
 ·obtain ⟨x,t,_,rfl⟩:=eqStrs r y (by simpa using hy)
  exact fun prog w E Q hq => wpAny_eqBool_str hq
structure TopD (K:W.Frag) (w:World) (a:Addr):Prop where
 at':∃ es n,K.lookup a = some ⟨.type "dict",none,.dict es n, #[]⟩∧W.KeysLit w.params es.toList
def rTopD (K:W.Frag) (w:World):R2:=fun x y H Q => ∃ (a:Addr) (z:Str) (v:V) (u:Value),x = .ref a∧y = .str z∧TopD K w a∧W.nsIn K a z = some (some u)∧Z6 v u∧Q v H
theorem ix_topD:IxR X (rTopD X.K X.w):=by
 intro value slice pins s σ H x y v u Q I rx ry h hs
 obtain ⟨a,z,v',u',rfl,rfl,⟨es,n,hl,hk⟩,e,r,q⟩:=h
 cases rx
 obtain ⟨t,rfl⟩:=ry
 have hm:=W.mapOf_K (prog:=X.prog) I.kIn hl hk
 exact tail_any hm.typeIs slot_dict_getitem.lookup (wpAny_getItem_of (strKind_is X.prog X.w z t) hm (W.find_K hl e) ⟨v',H,I.tok _,r,q⟩) hs
end
def MFn (P:Program) (w:World) (K:W.Frag) (mg:Str→Option Value) (base:Heap) (k:Nat) (C:Addr) (m:Str) (ps:List Str) (sp:Sp):Prop :=
 ∃ f fd,Cls K C∧Meth K C m f∧Yy P w K mg base Um k f fd ps sp∧Binds K fd ps []
def CFn (P:Program) (w:World) (K:W.Frag) (mg:Str→Option Value) (base:Heap) (k:Nat) (C:Addr) (x:Str) (ps:List Str) (sp:Sp):Prop :=
 ∃ f fd,Mk K C f∧Yy P w K mg base Um k f fd ps sp∧Binds K fd ps []∧mg x = some (.ref C)
section
variable {X:Cx} {k:Nat} {C:Addr} {m x:Str} {ps:List Str} {sp:Sp} {o e:Expr} {es:List Expr} {ta:TE} {t:TA} {p pos apos:Pos}
theorem Y4 {pl:Sem Bool} (G:MFn X.prog X.w X.K X.mg X.base k C m ps sp) (hr:Vl k X.A) (ho:PE X o ta) (ha:PA X (e :: es) t)
  (hst:starEach (e :: es) X.env = (false,eval e X.env) :: starEach es X.env:=by rfl) (hpl:(backTo pos (starEach es X.env)).any (·.1) = false:=by rfl)
  (ht:eval (.Call (.Attribute o m apos) (e :: es) [] pos) X.env = (do
   let ov ← eval o X.env
   standAt apos.atName
   let (f,first) ← holding [ov] (getMethod ov m pl)
   callWith pos f first (backTo pos (starEach (e :: es) X.env)) (backToKw pos (keywordEach [] X.env))):=by rfl) :
  PE X (.Call (.Attribute o m apos) (e :: es) [] pos) (tMeth C m sp [] E0 ta t):=by
 obtain ⟨f,fd,c,hm,F,b⟩:=G
 exact pe_meth ho c hm F hr b .nil pass0 ha hst hpl ht
theorem pe_methF0 {pl:Sem Bool} (G:MFn X.prog X.w X.K X.mg X.base k C m ps sp) (hr:Vl k X.A) (ho:PE X o ta)
  (ht:eval (.Call (.Attribute o m apos) [] [] pos) X.env = (do
   let ov ← eval o X.env
   standAt apos.atName
   let (f,first) ← holding [ov] (getMethod ov m pl)
   callWith pos f first (backTo pos (starEach [] X.env)) (backToKw pos (keywordEach [] X.env))):=by rfl) :
  PE X (.Call (.Attribute o m apos) [] [] pos) (tMeth C m sp [] E0 ta tNil):=by
 obtain ⟨f,fd,c,hm,F,b⟩:=G
 exact pe_meth0 ho c hm F hr b .nil pass0 ht
theorem pe_makeF (G:CFn X.prog X.w X.K X.mg X.base k C x ps sp) (hr:Vl (k + 1) X.A) (hg:Gl X x) (ha:PA X (e :: es) t) (hdb:(x == ("__debug__" : Str)) = false:=by decide)
  (he:starEach (e :: es) X.env = (false,eval e X.env) :: starEach es X.env:=by rfl) (hpl:(backTo pos (starEach es X.env)).any (·.1) = false:=by rfl) :
  PE X (.Call (.Name x p) (e :: es) [] pos) (tMake C sp [] E0 t):=by
 obtain ⟨f,fd,M,F,b,mm⟩:=G
 exact pe_make M F hr hg mm b .nil pass0 ha hdb he hpl
end
end L2
namespace EnuT
open PySem
section
variable {prog:Program} {w:World} {A:Around} {E:Value→Shared→Prop} {s:Shared}
theorem nextT {it t:Addr} {i:Nat} {its:Array Value} {x:Value} {Q:Value→Shared→Prop} (hi:s.heap.IsTupleIter it t i) (ht:s.heap.IsTuple t its) (hx:its[i]? = some x)
  (q:∀ h',h'.IsTupleIter it t (i + 1)→Heap.SameBut it s.heap h'→Q x { s with heap:=h' }):wpAny (model prog w) A (Builtin.SmallTypes.nextOf (.ref it)) Q E s:=by
 obtain ⟨u,hu,hc,hd⟩:=id hi; obtain ⟨p,hp,_,n,dp⟩:=ht; unfold Builtin.SmallTypes.nextOf
 refine wpAny_bind (wpAny_callSpecial?_slot (name:=Str.ofString "__next__") hi.typeIs F.slot_tuple_iterator_next (wpAny_call_entry F.slot_tuple_iterator_next hi.typeIs F.entry_tuple_iterator_next ?_ (F.args_tuple_iterator_next_1 _)))
 show wpAny _ _ (field (.ref it) 0 >>= _) _ _ s; refine wpAny_bind (wpAny_field hu hd (x:=.ref t) rfl ?_)
 show wpAny _ _ (if (Value.ref t == Value.none) = true then _ else _) _ _ s; rw [if_neg (show ¬ ((Value.ref t == Value.none) = true) from Bool.false_ne_true)]
 show wpAny _ _ (field (.ref it) 1 >>= _) _ _ s; refine wpAny_bind (wpAny_field hu hd (x:=.int i 0) rfl ?_)
 show wpAny _ _ (seqItems? (.ref t) >>= _) _ _ s; refine wpAny_bind (wpAny_seqItems hp dp ?_)
 simp only [Int.toNat_natCast,hx]; refine wpAny_bind (wpAny_setField hu hd (by simp) (wpAny_pure ⟨x,rfl,wpAny_pure (q _ ?_ (Heap.SameBut.update ..))⟩))
 exact ⟨_,Heap.get?_update_self _ hu (Obj.isFreed_of_fields (Obj.data_mapFields hd _)),(Obj.cls_mapFields ..).trans hc,by rw [Obj.data_mapFields hd]; simp [rawInt]⟩
theorem endT {it t:Addr} {i:Nat} {its:Array Value} {Q:Value→Shared→Prop} (hh:A.handled = none) (hi:s.heap.IsTupleIter it t i) (ht:s.heap.IsTuple t its) (hx:its[i]? = none)
  (q:∀ h' e,Heap.ExtBut it s.heap h'→(∃ o,h'.get? e = some o∧o.cls = .type "StopIteration")→E (.ref e) { s with heap:=h' }):wpAny (model prog w) A (Builtin.SmallTypes.nextOf (.ref it)) Q E s:=by
 obtain ⟨u,hu,hc,hd⟩:=id hi; obtain ⟨p,hp,_,n,dp⟩:=ht; unfold Builtin.SmallTypes.nextOf
 refine wpAny_bind (wpAny_callSpecial?_slot (name:=Str.ofString "__next__") hi.typeIs F.slot_tuple_iterator_next (wpAny_call_entry F.slot_tuple_iterator_next hi.typeIs F.entry_tuple_iterator_next ?_ (F.args_tuple_iterator_next_1 _)))
 show wpAny _ _ (field (.ref it) 0 >>= _) _ _ s; refine wpAny_bind (wpAny_field hu hd (x:=.ref t) rfl ?_)
 show wpAny _ _ (if (Value.ref t == Value.none) = true then _ else _) _ _ s; rw [if_neg (show ¬ ((Value.ref t == Value.none) = true) from Bool.false_ne_true)]
 show wpAny _ _ (field (.ref it) 1 >>= _) _ _ s; refine wpAny_bind (wpAny_field hu hd (x:=.int i 0) rfl ?_)
 show wpAny _ _ (seqItems? (.ref t) >>= _) _ _ s; refine wpAny_bind (wpAny_seqItems hp dp ?_)
 simp only [Int.toNat_natCast,hx]; refine wpAny_bind (wpAny_rule (wpAny_bind (wpAny_setField hu hd (by simp) ?_)))
 show wpAny _ _ (newExc (.type "StopIteration") [] >>= _) _ _ _; refine wpAny_bind ?_; simp only [newExc,newTuple]
 refine wpAny_bind (wpAny_newObj_type ?_ (by size_fits)); refine wpAny_bind (m:=firstArgMember _ _) (wpAny_of_eq (a:=Value.none) (by first | rfl | (simp only [firstArgMember]; rfl)) ?_)
 refine wpAny_newObj_type ?_ (by size_fits); simp only [raiseNew]; refine wpAny_bind (wpAny_handled ?_)
 first | rw [show A.in1.handled = none from hh] | rw [hh]
 refine wpAny_bind (wpAny_pure (wpAny_throw ?_)); exact q _ _ (((Heap.SameBut.update ..).extBut.push _).push _) ⟨_,Heap.get?_push_size _ rfl,rfl⟩
end
theorem drawsT {prog:Program} {w:World} {A:Around} (hh:A.handled = none) (it t:Addr) (hne:t ≠ it) (its:Array Value) :
  Draws prog w A it [it,t] its.size (fun i v => its[i]? = some v) (fun i h => h.IsTupleIter it t i∧h.IsTuple t its) where
 live:=fun _ _ st => let ⟨o,ho,_⟩:=st.1; ⟨o,ho⟩
 frame:=fun _ _ _ st hk => ⟨let ⟨o,ho,r⟩:=st.1; ⟨o,hk it (by simp) o ho,r⟩,let ⟨o,ho,r⟩:=st.2; ⟨o,hk t (by simp) o ho,r⟩⟩
 item:=fun i s Q E hi st hQ => nextT st.1 st.2 (x:=its[i]) (by simp [hi]) fun h' a b => hQ _ h' s.toks (by simp [hi]) ⟨a,st.2.extBut b.extBut hne⟩ b
 done:=fun s Q E st hE => endT hh st.1 st.2 (by simp) hE
theorem meetsT (t:Addr) (its:Array Value) (n:Nat) (dct:Option Addr) (sl:Array (Option Value)) :
  Meets (Builtin.«enumerate.__new__» ⟨[.type "enumerate",.ref t],[]⟩) (fun _ R s => s.heap.get? t = some { cls:=.type "tuple",dict:=dct,data:=.seq its n,slots:=sl } ∧
   R (.ok (.ret (.ref (s.heap.push { cls:=.type "tuple_iterator",data:=.fields #[.ref t,.int 0 0] }).objs.size)))
    { s with heap:=(s.heap.push { cls:=.type "tuple_iterator",data:=.fields #[.ref t,.int 0 0] }).push { cls:=.type "enumerate",data:=.fields #[.none,.bool false,.ref s.heap.objs.size,rawInt 0,.none,.none] } }) :=
 .of_wp fun prog w A R s h => by
  obtain ⟨hp,g,d,tk,os⟩:=s
  obtain ⟨ht,h⟩:=h
  have hs:=sub_enumerate
  have hT:Heap.IsTuple (Shared.heap ⟨hp,g,d,tk,os⟩) t its:=⟨_,ht,rfl,n,rfl⟩
  wp_walk using AutoSeq1.wpAny_loadPart' ht
  refine wpAny_stack_any fun st => wpAny_pure ?_
  split
  ·rename_i c _ _ _ _ _
   cases (c == Value.type "enumerate") <;> (wp_walk using AutoSeq1.wpAny_loadPart' ht,wpAny_pyIter_tuple hT; exact ⟨_,rfl,h⟩)
  ·wp_walk using AutoSeq1.wpAny_loadPart' ht,wpAny_pyIter_tuple hT
   exact ⟨_,rfl,h⟩
section
variable {prog:Program} {w:World} {A:Around} {E:Value→Shared→Prop} {s:Shared}
theorem callT {t:Addr} {its:Array Value} {Q:Value→Shared→Prop} (hT:s.heap.IsTuple t its)
  (q:∀ h',IsEnum h' (s.heap.objs.size + 1) s.heap.objs.size 0 .none→h'.IsTupleIter s.heap.objs.size t 0→(∀ b o,s.heap.get? b = some o→h'.get? b = some o)→Q (.ref (s.heap.objs.size + 1)) { s with heap:=h' }) :
  wpAny (model prog w) A (call (.type "enumerate") [.ref t]) Q E s:=by
 obtain ⟨⟨c,dct,dt,sl⟩,hl,hc,n,hd⟩:=hT
 obtain rfl:c = .type "tuple" := hc
 obtain rfl:dt = .seq its n:=hd
 refine callType_new F.called_enumerate (by decide) (F.typeCall_enumerate_1 _) (F.newCall_enumerate_1 _) (fun obj => F.args_object_init_2 obj _) F.entry_enumerate_new (meetsT t its n dct sl) ⟨hl, ?_⟩
 have hz:(s.heap.push { cls:=.type "tuple_iterator",data:=.fields #[.ref t,.int 0 0] }).objs.size = s.heap.objs.size + 1:=Heap.size_push ..
 show _∧_
 rw [hz]
 have he:IsEnum ((s.heap.push { cls:=.type "tuple_iterator",data:=.fields #[.ref t,.int 0 0] }).push { cls:=.type "enumerate",data:=.fields #[.none,.bool false,.ref s.heap.objs.size,rawInt 0,.none,.none] }) (s.heap.objs.size + 1) s.heap.objs.size 0 .none:=by
  have z:=Heap.get?_push_size (s.heap.push { cls:=.type "tuple_iterator",data:=.fields #[.ref t,.int 0 0] }) (o:={ cls:=.type "enumerate",data:=.fields #[.none,.bool false,.ref s.heap.objs.size,rawInt 0,.none,.none] }) rfl
  rw [hz] at z; exact z
 exact ⟨⟨_,he,rfl⟩,q _ he ⟨_,Heap.get?_push_of_some _ (Heap.get?_push_size _ rfl),rfl,rfl⟩ fun b o x => Heap.get?_push_of_some _ (Heap.get?_push_of_some _ x)⟩
end
end EnuT
namespace L2
open PySem PySem.Spec PyProof.Rows
def Itn (K:W.Frag) (a:Addr) (xs:List V):It :=
  ⟨fun i H => i < xs.length∧Z9 K H a xs,
   fun i H v H' => ∃ p x,v = .ref p∧H p = none∧H' = Z4 H p (.tup [.int i,x])∧xs[i]? = some x,
   fun i H => xs.length ≤ i∧Z9 K H a xs⟩
theorem turn_enum {P:Program} {w:World} {K:W.Frag} {es:List Expr} {k:Nat} {pos:Pos} (e it a:Addr) (xs:List V) (hei:e ≠ it) (hae:a ≠ e) (hai:a ≠ it) :
  Turn P w K (.Tuple es k pos) (Itn K a xs) [e,it] e (fun i h => i ≤ xs.length∧(∃ old,IsEnum h e it ((i:Nat):Int) old)∧h.IsTupleIter it a i) where
 mem:=by simp
 obj:=fun i h st b hb => by
  obtain ⟨_,⟨old,he⟩,⟨o,eo,_,d⟩⟩:=st
  simp only [List.mem_cons,List.not_mem_nil,or_false] at hb
  rcases hb with rfl | rfl
  ·exact ⟨_,he,fun v q => nomatch q⟩
  ·exact ⟨_,eo,fun v q => by rw [d] at q; cases q⟩
 keep:=fun i h h' st hk => by
  obtain ⟨hi,⟨old,he⟩,ht⟩:=st
  exact ⟨hi,⟨old,hk e (by simp) _ he⟩,ht.at fun o eo => hk it (by simp) o eo⟩
 item:=by
  intro X hP hw hK hc i pins s σ H E I hf st hg
  subst hP hw hK
  obtain ⟨hlt,hq⟩:=hg
  obtain ⟨hi,⟨old,he⟩,ht⟩:=st
  obtain ⟨its,rv,p,_⟩:=I.tuple hq
  have hx:xs[i]? = some xs[i]:=List.getElem?_eq_getElem hlt
  obtain ⟨u,hu,ru⟩:=rv.get hx
  have hsz:its.toArray.size = xs.length:=by rw [List.size_toArray]; exact rv.length.symm
  refine wpAny_pyNext_enum_itemD (EnuT.drawsT (A:=X.A.in1) (I.ok.hd hc) it a hai its.toArray) he ⟨ht,p⟩ (by omega) hei (by simp only [List.mem_cons,List.not_mem_nil,or_false,not_or]; exact ⟨hei,fun q => hae q.symm⟩) fun y h' tk py ho st' ht' hz' hk => ?_
  have ey:y = u:=by
   have z:its.toArray[i]? = some u:=by simpa using hu
   exact Option.some.inj (py.symm.trans z)
  subst ey
  refine ⟨_,rfl,wpAny_letOwnedTupleGo_enum (s:={ s with heap:=h',toks:=tk + 1 }) ho fun h'' he'' hs'' => ?_⟩
  have lt:∀ {c o},s.heap.get? c = some o→s.heap.objs.size ≠ c:=fun q => Nat.ne_of_gt (Heap.lt_size q)
  have ne:s.heap.objs.size ≠ e:=lt he
  have kk:∀ c o,c ∉ [e,it]→s.heap.get? c = some o→h''.get? c = some o:=fun c o m q => by
   simp only [List.mem_cons,List.not_mem_nil,or_false,not_or] at m
   exact hs''.extBut _ _ m.1 (hk c o m.1 m.2 q)
  have J:Zo X pins σ (Z4 H s.heap.objs.size (.tup [.int i,xs[i]])) { s with heap:=h'',toks:=tk + 1 }:=I.turnLay kk hf (Nat.le_refl _) ⟨by show 2 ≤ sizeLine; decide,[.int i tk,y],.cons ⟨tk,rfl⟩ (.cons ru .nil),⟨_,hs''.extBut _ _ ne ht',rfl,_,rfl⟩⟩
  refine ⟨.ref s.heap.objs.size,_,J,rfl,⟨_,_,rfl,I.hok.fresh (Nat.le_refl _),rfl,hx⟩,⟨by omega,⟨_,by have:=he''; simpa using this⟩,st'.1.extBut hs''.extBut (fun q => hei q.symm)⟩,fun c hc => ?_⟩
  have nc:c ≠ s.heap.objs.size:=fun q => by
   subst q
   simp only [List.mem_cons,List.not_mem_nil,or_false] at hc
   rcases hc with q | q
   ·exact lt he q
   ·obtain ⟨_,eo,_⟩:=ht; exact lt eo q
  rw [Zh nc]
  exact (hf c hc).1
 done:=by
  intro X hP hw hK hc i pins s σ H E I hf st hg
  subst hP hw hK
  obtain ⟨hge,hq⟩:=hg
  obtain ⟨hi,⟨old,he⟩,ht⟩:=st
  obtain ⟨its,rv,p,_⟩:=I.tuple hq
  have hsz:its.toArray.size = xs.length:=by rw [List.size_toArray]; exact rv.length.symm
  have ei:i = its.toArray.size:=by omega
  rw [ei] at ht
  refine wpAny_pyNext_enum_endD (EnuT.drawsT (A:=X.A.in1) (I.ok.hd hc) it a hai its.toArray) he ⟨ht,p⟩ fun h' eb => ⟨rfl,I.turnL (t':=s.toks) (fp:=[e,it]) (fun c u m q => ?_) hf⟩
  simp only [List.mem_cons,List.not_mem_nil,or_false,not_or] at m
  exact eb c u m.2 q
 self:=fun A i s Q E st h => by
  obtain ⟨_,⟨old,he⟩,_⟩:=st
  exact wpAny_pyIter_enum he h
def iEnum (K:W.Frag) (t:TA):TI:=fun σ H R => t σ H fun vs H1 => ∃ p xs,vs = [.ref p]∧Z9 K H1 p xs∧R (Itn K p xs) H1
section
variable {X:Cx} {es:List Expr} {k:Nat} {p2 pos pos2:Pos} {a:Expr} {t:TA}
theorem pi_enum (hgz:Gl X "enumerate") (hmz:X.mg "enumerate" = none) (ha:PA X [a] t)
  (he2:starEach [a] X.env = (false,eval a X.env) :: starEach [] X.env:=by rfl) (hpl:(backTo pos2 (starEach [] X.env)).any (·.1) = false:=by rfl) :
  PI X (.Tuple es k pos) (.Call (.Name "enumerate" p2) [a] [] pos2) (iEnum X.K t):=by
 intro pins s σ H R I h
 refine wpAny_Call_Name_kw (V7 I hgz hmz (by decide +kernel:bootBuiltins "enumerate" = some (.type "enumerate")) ?_ (by decide) (by decide))
 refine callWith_type1 (Y9 (ha pos2 pins s σ H _ I h) fun us s1 ⟨vs,H1,I1,r1,q1⟩ => ?_) he2 hpl
 obtain ⟨l,xs,rfl,hx,q⟩:=q1
 obtain ⟨u1,rfl,e1⟩:=vals1 r1
 cases e1
 obtain ⟨its,rv,pl,z⟩:=I1.tuple hx
 have nl:l < s1.heap.objs.size:=by obtain ⟨_,e,_⟩:=id pl; exact Heap.lt_size e
 refine EnuT.callT (show s1.heap.IsTuple l its.toArray from pl) fun h2 b1 b2 k2 => ?_
 refine wpAny_pyIter_enum (s:={ s1 with heap:=h2 }) b1 ?_
 have J:Zo X pins σ H1 { s1 with heap:=h2,toks:=s1.toks }:=I1.kept k2
 refine ⟨_,[s1.heap.objs.size + 1,s1.heap.objs.size],_,_,H1,rfl,J,turn_enum _ _ l xs (Nat.succ_ne_self _) (Nat.ne_of_lt (Nat.lt_succ_of_lt nl)) (Nat.ne_of_lt nl),⟨Nat.zero_le _,⟨_,b1⟩,b2⟩,fun c hc => ?_,q⟩
 have ge:s1.heap.objs.size ≤ c:=by
  simp only [List.mem_cons,List.not_mem_nil,or_false] at hc
  rcases hc with q | q <;> rw [q] <;> first | exact Nat.le_refl _ | exact Nat.le_add_right _ _
 exact I1.fpOk ge (I1.hok.fresh ge)
end
theorem for_enum {K:W.Frag} {a:Addr} {xs:List V} {g:TG} {tb:TS} {D:Ends} {σ:St} {H:Hp} (Pv:Nat→St→Hp→Prop) (h0:Pv 0 σ H) (hl:∀ i σ H,i ≤ xs.length→Pv i σ H→Z9 K H a xs)
  (hs:∀ i x p σ H,xs[i]? = some x→Pv i σ H→H p = none→g (.ref p) σ (Z4 H p (.tup [.int i,x])) fun σ2 H2 => tb { D with nx:=Pv (i + 1),ct:=Pv (i + 1),bk:=D.nx } σ2 H2) (hd:∀ σ H,Pv xs.length σ H→D.nx σ H) :
  ∃ W:Nat→Nat→St→Hp→Prop,(∃ m,W 0 m σ H)∧∀ i m σ H,W i m σ H →
   ((Itn K a xs).stop i H∧D.nx σ H) ∨ ((Itn K a xs).go i H∧∃ N:St→Hp→Prop,(∀ σ' H',N σ' H'→∃ m',m' < m∧W (i + 1) m' σ' H')∧∀ x H',(Itn K a xs).yld i H x H'→g x σ H' fun σ2 H2 => tb { D with nx:=N,ct:=N,bk:=D.nx } σ2 H2):=by
 refine ⟨fun i m σ H => m = xs.length - i∧i ≤ xs.length∧Pv i σ H,⟨xs.length,by simp,Nat.zero_le _,h0⟩, ?_⟩
 rintro i m σ H ⟨rfl,hi,p⟩
 have q:=hl i σ H hi p
 by_cases hlt:i < xs.length
 ·refine .inr ⟨⟨hlt,q⟩,Pv (i + 1),fun σ' H' p' => ⟨xs.length - (i + 1),by omega,rfl,hlt,p'⟩,fun x H' y => ?_⟩
  obtain ⟨r,z,rfl,hr,rfl,hz⟩:=y
  exact hs i z r σ H hz p hr
 ·have e:i = xs.length:=by omega
  subst e
  exact .inl ⟨⟨Nat.le_refl _,q⟩,hd σ H p⟩
section
variable {X:Cx}
end
section
variable {X:Cx} {p p2 pos pos2:Pos} {a b:Expr} {t:TA}
end
end L2
namespace K06
open PySem PySem.Spec PyProof.Rows L2 K01
theorem b_len:bootBuiltins "len" = some (.builtin "len"):=by decide +kernel
theorem b_ord:bootBuiltins "ord" = some (.builtin "ord"):=by decide +kernel
theorem b_max:bootBuiltins "max" = some (.builtin "max"):=by decide +kernel
theorem b_sorted:bootBuiltins "sorted" = some (.builtin "sorted"):=by decide +kernel
theorem b_isinstance:bootBuiltins "isinstance" = some (.builtin "isinstance"):=by decide +kernel
theorem b_tuple:bootBuiltins "tuple" = some (.type "tuple"):=by decide +kernel
theorem b_list:bootBuiltins "list" = some (.type "list"):=by decide +kernel
theorem b_set:bootBuiltins "set" = some (.type "set"):=by decide +kernel
theorem b_int:bootBuiltins "int" = some (.type "int"):=by decide +kernel
theorem b_str:bootBuiltins "str" = some (.type "str"):=by decide +kernel
theorem b_sum:bootBuiltins "sum" = some (.builtin "sum"):=by decide +kernel
theorem b_bool:bootBuiltins "bool" = some (.type "bool"):=by decide +kernel
structure Bn (mg:Str→Option Value):Prop where
 len:mg "len" = none
 ord:mg "ord" = none
 max:mg "max" = none
 sorted:mg "sorted" = none
 isinstance:mg "isinstance" = none
 tuple:mg "tuple" = none
 list:mg "list" = none
 set:mg "set" = none
 int:mg "int" = none
 str:mg "str" = none
 bool:mg "bool" = none
 range:mg "range" = none
 zip:mg "zip" = none
 reversed:mg "reversed" = none
 enumerate:mg "enumerate" = none
 sum:mg "sum" = none
structure Cn (mg:Str→Option Value):Prop where
 LETTERS:∃ t,mg "LETTERS" = some (.str LET t)
 SIGNS:∃ t,mg "SIGNS" = some (.str SGN t)
 GREATEST_WHOLE:∃ t,mg "GREATEST_WHOLE" = some (.int 1000000000000000000 t)
 GREATEST_NUMBER:∃ t,mg "GREATEST_NUMBER" = some (.int 999 t)
 LONGEST_TEXT:∃ t,mg "LONGEST_TEXT" = some (.int 200 t)
 LONGEST_NAME:∃ t,mg "LONGEST_NAME" = some (.int 8 t)
 DEEPEST:∃ t,mg "DEEPEST" = some (.int 100 t)
 GREATEST_SIZE:∃ t,mg "GREATEST_SIZE" = some (.int 1000000 t)
theorem Yq {b:Bool} {A B:Prop} (h:b = false) (q:B):if b = true then A else B:=by subst h; exact iteF q
theorem Yp {b:Bool} {A B:Prop} (h:b = true) (q:A):if b = true then A else B:=by subst h; exact iteT q
theorem alwaysT {σ:L2.St} {H:Hp} {A B:Hp→Prop} (h:A H):tAlways σ H fun ok H3 => if ok = true then A H3 else B H3:=by
 show if true = true then A H else B H
 exact iteT (A:=A H) (B:=B H) h
abbrev s_law_feed:Stmt:=top 47
abbrev N_law_feed:List Str:=["_law_script","_law_k","_law_cell"]
theorem sc_law_feed:Zs N_law_feed ["_law_script","_law_k"] (Zk s_law_feed):=by trivial
abbrev s_law_draw:Stmt:=top 48
abbrev N_law_draw:List Str:=["_law_feed_here","_law_many","_law_figure","_law_number_here"]
theorem sc_law_draw:Zs N_law_draw ["_law_feed_here","_law_many"] (Zk s_law_draw):=by trivial
abbrev s_law_name:Stmt:=top 49
abbrev N_law_name:List Str:=["_law_feed_here","_law_words","_law_letters"]
theorem sc_law_name:Zs N_law_name ["_law_feed_here"] (Zk s_law_name):=by trivial
abbrev s_law_number:Stmt:=top 50
abbrev N_law_number:List Str:=["_law_feed_here","_law_some"]
theorem sc_law_number:Zs N_law_number ["_law_feed_here"] (Zk s_law_number):=by trivial
abbrev s_law_whole:Stmt:=top 51
abbrev N_law_whole:List Str:=["_law_feed_here","_law_some","_law_number_here"]
theorem sc_law_whole:Zs N_law_whole ["_law_feed_here"] (Zk s_law_whole):=by trivial
abbrev s_law_text:Stmt:=top 52
abbrev N_law_text:List Str:=["_law_feed_here","_law_many","_law_signs","_law_start","_law_step"]
theorem Vt:Zs N_law_text ["_law_feed_here"] (Zk s_law_text):=by trivial
def spFeed (K:W.Frag):Sp:=fun vs H Q _ => ∃ (a:Addr) (ns:List Int) (k:Int),vs = [.ref a,.int k]∧Ym K H a (ns.map V.int)∧ns.length ≤ 63∧0 ≤ k∧∀ (l:Addr) (H':Hp),Zb H H'→H l = none→Feed H' l→Q (.ref l) H'
def spDraw:Sp:=fun vs H Q _ => ∃ (l:Addr) (m:Int),vs = [.ref l,.int m]∧Feed H l∧0 < m∧m < 1073741824∧∀ (r:Int) (H':Hp),0 ≤ r→r < m→Vn l H H'→Q (.int r) H'
def V6 (x:Str):Prop:=1 ≤ x.length∧x.length ≤ 8∧∀ c ∈ x.cps.toList,97 ≤ c∧c ≤ 122
def textOk (x:Str):Prop:=x.length ≤ 200∧gdS x
def spStrD (p:Str→Prop):Sp:=fun vs H Q _ => ∃ l:Addr,vs = [.ref l]∧Feed H l∧∀ (x:Str) (H':Hp),p x→Vn l H H'→Q (.str x) H'
def spIntD (p:Int→Prop):Sp:=fun vs H Q _ => ∃ l:Addr,vs = [.ref l]∧Feed H l∧∀ (n:Int) (H':Hp),p n→Vn l H H'→Q (.int n) H'
instance (x:Str):Decidable (V6 x):=inferInstanceAs (Decidable (_∧_∧_))
theorem words_ok:∀ x ∈ (["a","ab","abc","z","zz","abcdefgh","zzzzzzzz","b","ba","row"]:List Str),V6 x:=by decide +kernel
theorem let_ok:∀ c ∈ (Str.cps "abcdefghijklmnopqrstuvwxyz").toList,97 ≤ c∧c ≤ 122:=by decide +kernel
instance (c:Nat):Decidable (gdC c):=inferInstanceAs (Decidable (_∧_∧_))
theorem signs_ok : ∀ c ∈ (((((" !#$&'()*+,-./0123456789:;<=>?\x40[]^_{|}~" : Str) ++ ("\"" : Str)) ++ ("\\" : Str)) ++ ("`" : Str)) ++ ("ABCDEFGHIJKLMNOPQRSTUVWXYZabcdefghijklmnopqrstuvwxyz" : Str)).cps.toList, gdC c := by decide +kernel
theorem pickS (ss:List Str) {r:Int} (h0:0 ≤ r) (h1:r < ss.length):∃ x,x ∈ ss∧atI (ss.map V.str) r = some (.str x):=by
 have hj:r.toNat < ss.length:=by omega
 refine ⟨ss[r.toNat],List.getElem_mem hj, ?_⟩
 have z:atI (ss.map V.str) ((r.toNat:Nat):Int) = some (.str ss[r.toNat]):=atI_nat (by rw [List.getElem?_map,List.getElem?_eq_getElem hj]; rfl)
 rw [show ((r.toNat:Nat):Int) = r by omega] at z
 exact z
theorem pickI (ns:List Int) {r:Int} (h0:0 ≤ r) (h1:r < ns.length):∃ n,n ∈ ns∧atI (ns.map V.int) r = some (.int n):=by
 have hj:r.toNat < ns.length:=by omega
 refine ⟨ns[r.toNat],List.getElem_mem hj, ?_⟩
 have z:atI (ns.map V.int) ((r.toNat:Nat):Int) = some (.int ns[r.toNat]):=atI_nat (by rw [List.getElem?_map,List.getElem?_eq_getElem hj]; rfl)
 rw [show ((r.toNat:Nat):Int) = r by omega] at z
 exact z
theorem pickC (cs:List Nat) {r:Int} (h0:0 ≤ r) (h1:r < cs.length):∃ c,c ∈ cs∧atI cs r = some c:=by
 have hj:r.toNat < cs.length:=by omega
 refine ⟨cs[r.toNat],List.getElem_mem hj, ?_⟩
 have z:atI cs ((r.toNat:Nat):Int) = some cs[r.toNat]:=atI_nat (List.getElem?_eq_getElem hj)
 rw [show ((r.toNat:Nat):Int) = r by omega] at z
 exact z
def OnesP (p:Nat→Prop) (ss:List Str):Prop:=∀ x ∈ ss,∃ c,p c∧x = ⟨#[c]⟩
theorem ones_sum {p:Nat→Prop}:∀ {ss:List Str},OnesP p ss→(ss.map (·.length)).sum = ss.length
 | [],_ => rfl
 | x :: ss,h => by
  obtain ⟨c,_,rfl⟩:=h x List.mem_cons_self
  have h2:=ones_sum (ss:=ss) fun y my => h y (List.mem_cons_of_mem _ my)
  simp only [List.map_cons,List.sum_cons,List.length_cons,h2]
  show 1 + ss.length = ss.length + 1
  omega
theorem ones_more {p:Nat→Prop} {ss:List Str} {c:Nat} (h:OnesP p ss) (hc:p c):OnesP p (ss ++ [⟨#[c]⟩]):=fun x mx => by
 rcases List.mem_append.mp mx with mx | mx
 ·exact h x mx
 ·rw [List.mem_singleton.mp mx]; exact ⟨c,hc,rfl⟩
theorem join_go:∀ (l:List Str) (acc:Array Nat),(l.foldl (fun acc p => acc ++ (Str.cps "") ++ p.cps) acc).toList = acc.toList ++ (l.map fun x => x.cps.toList).flatten
 | [],acc => by simp
 | x :: l,acc => by
  rw [List.foldl_cons,join_go l,List.map_cons,List.flatten_cons,Array.toList_append,Array.toList_append]
  have e:(Str.cps "").toList = []:=by decide +kernel
  rw [e,List.append_nil,List.append_assoc]
theorem join_list:∀ ss:List Str,(Txt.join "" ss).cps.toList = (ss.map fun x => x.cps.toList).flatten
 | [] => rfl
 | x :: ss => by
  show ((ss.foldl (fun acc p => acc ++ (Str.cps "") ++ p.cps) x.cps)).toList = _
  rw [join_go,List.map_cons,List.flatten_cons]
theorem join_codes {p:Nat→Prop} {ss:List Str} (h:OnesP p ss):∀ c ∈ (Txt.join "" ss).cps.toList,p c:=by
 intro c mc
 rw [join_list] at mc
 obtain ⟨l,ml,mc⟩:=List.mem_flatten.mp mc
 obtain ⟨x,mx,rfl⟩:=List.mem_map.mp ml
 obtain ⟨c',pc,rfl⟩:=h x mx
 have e:c = c':=by simpa using mc
 rw [e]
 exact pc
theorem join_len {p:Nat→Prop} {ss:List Str} (h:OnesP p ss):(Txt.join "" ss).length = ss.length:=by
 show (Txt.join "" ss).cps.size = _
 rw [← Array.length_toList,join_list,List.length_flatten,List.map_map, ← ones_sum h]
 congr 1
theorem nameT {i:Nat} {v:V} {σ:L2.St} {H:Hp} {A B:L2.St→Hp→Prop} (h:A (σ.set i (some v)) H):gName i v σ H fun σ2 H2 => tAlways σ2 H2 fun ok H3 => if ok = true then A σ2 H3 else B σ2 H3 :=
 alwaysT (σ:=σ.set i (some v)) (A:=A (σ.set i (some v))) (B:=B (σ.set i (some v))) h
section
variable {P:Program} {w:World} {K:W.Frag} {mg:Str→Option Value} {base:Heap} {f:Addr} {fd:FuncData}
theorem ok_feed (F:Uj K "_law_feed" "_law_feed" s_law_feed f fd) (m:Bn mg):Yy P w K mg base Um 1 f fd ["_law_script","_law_k"] (spFeed K):=by
 refine F.ok sc_law_feed (fun vs H Q E h => ?_) (fun cdv A outer s H vs Q E hr h => ?_)
 ·obtain ⟨a,ns,k,rfl,_⟩:=h
  rfl
 obtain ⟨a,ns,k,rfl,hS,h63,hk,q⟩:=h
 refine ⟨_,(@Zj _ _ _ _ _ (@Z8 _ _ _ _ _ _ _ _ (@Zm _ _ _ _ _ _ _ _ Yf (@Z5 _ _ _ _ _ _ _ _ _ Yg rfl m.len b_len (Zg (pv 0) Zz rfl) (by decide) (by decide) rfl rfl) Zx (Zt _)) (@Zv _ _ _ (@Zd _ _ _ _ (@Y2 _ _ _ _ (Zg Zx (Zg Zx (Zg (pv 1) (Zg Zx Zz rfl) rfl) rfl) rfl)))) Za) (@Zj _ _ _ _ _ (@Zy _ 2 _ _ _ _ _ sc_law_feed.nd rfl (by trivial) (@Zr _ _ _ _ _ _ _ Yo (pv 0) (@Zf _ _ _ _ _ _ _ _ Vu (pv 1) (@Z5 _ _ _ _ _ _ _ _ _ Yg rfl m.len b_len (Zg (pv 0) Zz rfl) (by decide) (by decide) rfl rfl)) (fun _ _ => rfl)) rfl (by trivial)) (@Zv _ _ _ (@Zd _ _ _ _ (@Y2 _ _ _ _ (Zg (@Z5 _ _ _ _ _ _ _ _ _ (call_max2 rfl) rfl m.max b_max (Zg Zx (Zg (@Zf _ _ _ _ _ _ _ _ Ug (pv 2) (@Zf _ _ _ _ _ _ _ _ op_pow Zx Zx)) Zz rfl) rfl) (by decide) (by decide) rfl rfl) (Zg (pv 2) (Zg (pv 1) (Zg Zx Zz rfl) rfl) rfl) rfl)))))), ?_⟩
 have hl:(ns.map V.int).length = ns.length:=List.length_map _
 refine ⟨_,rfl,a,_,rfl,.inl hS,rfl,_,rfl, ?_⟩
 refine ite2 (fun c => ?_) (fun c => ?_)
 ·refine ⟨_,rfl,(sz 4),fun l hl' => ?_⟩
  exact q l _ ((Zb.refl H).put hl') hl' ⟨_,_,_,_,Zq⟩
 ·have c':0 < ns.length:=by
   rcases Nat.eq_zero_or_pos ns.length with z | z
   ·exfalso
    apply c
    rw [hl,z]
    rfl
   ·exact z
  have hpos:(0:Int) < (((ns.map V.int).length:Nat):Int):=by rw [hl]; omega
  have hr0:=Int.emod_nonneg k (Int.ne_of_gt hpos)
  have hr1:=Int.emod_lt_of_pos k hpos
  generalize hix:k % (((ns.map V.int).length:Nat):Int) = ix at hr0 hr1
  have hj:ix.toNat < ns.length:=by omega
  have hat:atI (ns.map V.int) ix = some (.int ns[ix.toNat]):=by
   have z:atI (ns.map V.int) ((ix.toNat:Nat):Int) = some (.int ns[ix.toNat]):=atI_nat (by rw [List.getElem?_map,List.getElem?_eq_getElem hj] <;> rfl)
   rw [show ((ix.toNat:Nat):Int) = ix by omega] at z
   exact z
  refine ⟨_,rfl,_,rfl,_,rfl,a,_,rfl,.inl hS,_,_,rfl,rfl,hpos,a,_,_,_,rfl,rfl,hS,(by rw [hix]; exact hat), ?_⟩
  refine ⟨_,rfl,_,_,rfl,rfl,⟨by decide,by decide,by decide⟩,_,_,rfl,rfl,_,_,rfl,_,rfl,_,rfl,(sz 4),fun l hl' => ?_⟩
  exact q l _ ((Zb.refl H).put hl') hl' ⟨_,_,_,_,Zq⟩
theorem step_upd {l:Addr} {H:Hp} (a b c d:Int):Vn l H (Z4 H l (.lst [.int a,.int b,.int c,.int d])):=⟨fun x o n h => by rw [Zh n]; exact h,a,b,c,d,Zq⟩
theorem ok_draw (F:Uj K "_law_draw" "_law_draw" s_law_draw f fd):Yy P w K mg base Um 1 f fd ["_law_feed_here","_law_many"] spDraw:=by
 refine F.ok sc_law_draw (fun vs H Q E h => ?_) (fun cdv A outer s H vs Q E hr h => ?_)
 ·obtain ⟨l,m,rfl,_⟩:=h
  rfl
 obtain ⟨l,m,rfl,⟨a,b,c,d,hH⟩,hm,hm2,q⟩:=h
 refine ⟨_,(@Zj _ _ _ _ _ (@ps_asg _ _ _ _ _ _ (@Zf _ _ _ _ _ _ _ _ Z1 (@Zr _ _ _ _ _ _ _ Yo (pv 0) Zx (fun _ _ => rfl)) Zx) (@pg_sub _ _ _ _ _ _ _ (pv 0) Zx set_list (by trivial)) (by trivial) (by trivial) (by trivial)) (@Zj _ _ _ _ _ (@Z8 _ _ _ _ _ _ _ _ (@Zm _ _ _ _ _ _ _ _ op_gt (@Zr _ _ _ _ _ _ _ Yo (pv 0) Zx (fun _ _ => rfl)) Zx (Zt _)) (@Zj _ _ _ _ _ (@Zy _ 2 _ _ _ _ _ sc_law_draw.nd rfl (by trivial) (@Zf _ _ _ _ _ _ _ _ Vu (@Zr _ _ _ _ _ _ _ Yo (pv 0) Zx (fun _ _ => rfl)) (pv 1)) rfl (by trivial)) (@Zj _ _ _ _ _ (@ps_asg _ _ _ _ _ _ (@Zf _ _ _ _ _ _ _ _ op_fdiv (@Zr _ _ _ _ _ _ _ Yo (pv 0) Zx (fun _ _ => rfl)) (pv 1)) (@pg_sub _ _ _ _ _ _ _ (pv 0) Zx set_list (by trivial)) (by trivial) (by trivial) (by trivial)) (@Zv _ _ _ (@Zd _ _ _ _ (pv 2))))) Za) (@Zj _ _ _ _ _ (@Zy _ 3 _ _ _ _ _ sc_law_draw.nd rfl (by trivial) (@Zf _ _ _ _ _ _ _ _ Vu (@Zf _ _ _ _ _ _ _ _ Z1 (@Zf _ _ _ _ _ _ _ _ Z1 (@Zr _ _ _ _ _ _ _ Yo (pv 0) Zx (fun _ _ => rfl)) (@Zf _ _ _ _ _ _ _ _ Vp Zx (@Zr _ _ _ _ _ _ _ Yo (pv 0) Zx (fun _ _ => rfl)))) (@Zf _ _ _ _ _ _ _ _ Vp Zx (@Zr _ _ _ _ _ _ _ Yo (pv 0) Zx (fun _ _ => rfl)))) Zx) rfl (by trivial)) (@Zj _ _ _ _ _ (@Zy _ 3 _ _ _ _ _ sc_law_draw.nd rfl (by trivial) (@Zf _ _ _ _ _ _ _ _ Vu (@Zf _ _ _ _ _ _ _ _ Z1 (@Zf _ _ _ _ _ _ _ _ Z1 (@Zf _ _ _ _ _ _ _ _ Vp (pv 3) (pv 3)) (@Zf _ _ _ _ _ _ _ _ Vp Zx (pv 3))) (@Zr _ _ _ _ _ _ _ Yo (pv 0) Zx (fun _ _ => rfl))) Zx) rfl (by trivial)) (@Zj _ _ _ _ _ (@Zy _ 3 _ _ _ _ _ sc_law_draw.nd rfl (by trivial) (@Zf _ _ _ _ _ _ _ _ Vu (@Zf _ _ _ _ _ _ _ _ Z1 (@Zf _ _ _ _ _ _ _ _ Z1 (@Zf _ _ _ _ _ _ _ _ Vp (pv 3) (pv 3)) (@Zf _ _ _ _ _ _ _ _ Vp Zx (pv 3))) (@Zr _ _ _ _ _ _ _ Yo (pv 0) Zx (fun _ _ => rfl))) Zx) rfl (by trivial)) (@Zv _ _ _ (@Zd _ _ _ _ (@Zf _ _ _ _ _ _ _ _ Vu (pv 3) (pv 1))))))))), ?_⟩
 refine ⟨_,rfl,l,_,_,_,rfl,rfl,Ym.of hH,rfl,_,_,rfl,rfl,_,rfl,l,_,_,_,rfl,rfl,hH,rfl, ?_⟩
 have h2:Ym K (Z4 H l (.lst [.int a,.int b,.int c,.int (d + 1)])) l [.int a,.int b,.int c,.int (d + 1)]:=Ym.of Zq
 refine ⟨_,rfl,l,_,_,_,rfl,rfl,h2,rfl,_,_,rfl,rfl,_,rfl, ?_⟩
 refine ite2 (fun c1 => ?_) (fun c1 => ?_)
 ·refine ⟨_,rfl,l,_,_,_,rfl,rfl,h2,rfl,_,rfl,_,_,rfl,rfl,hm, ?_⟩
  refine ⟨_,rfl,l,_,_,_,rfl,rfl,h2,rfl,_,rfl,_,_,rfl,rfl,⟨hm,hm2⟩,_,rfl,l,_,_,_,rfl,rfl,Zq,rfl, ?_⟩
  refine ⟨_,rfl, ?_⟩
  rw [upd_upd]
  exact q (a % m) _ (Int.emod_nonneg _ (by omega)) (Int.emod_lt_of_pos _ hm) (step_upd _ _ _ _)
 ·refine ⟨_,rfl,l,_,_,_,rfl,rfl,h2,rfl,_,rfl,l,_,_,_,rfl,rfl,h2,rfl,_,_,rfl,rfl,.inl ⟨by decide,by decide⟩,_,_,rfl,rfl,_,rfl,l,_,_,_,rfl,rfl,h2,rfl,_,_,rfl,rfl,.inl ⟨by decide,by decide⟩,_,_,rfl,rfl,_,_,rfl,rfl,(by show (0:Int) < 2147483629; decide), ?_⟩
  generalize hx1:(b + 7919 * c + 104729 * (d + 1)) % 2147483629 = x1
  have b1:0 ≤ x1∧x1 < 2147483629:=by omega
  refine ⟨_,rfl,_,rfl,_,_,rfl,rfl,.inl ⟨by omega,by omega⟩,_,rfl,_,_,rfl,rfl,.inl ⟨by decide,by decide⟩,_,_,rfl,rfl,_,rfl,l,_,_,_,rfl,rfl,h2,rfl,_,_,rfl,rfl,_,_,rfl,rfl,(by show (0:Int) < 2147483629; decide), ?_⟩
  generalize hx2:(x1 * x1 + 48271 * x1 + c) % 2147483629 = x2
  have b2:0 ≤ x2∧x2 < 2147483629:=by omega
  refine ⟨_,rfl,_,rfl,_,_,rfl,rfl,.inl ⟨by omega,by omega⟩,_,rfl,_,_,rfl,rfl,.inl ⟨by decide,by decide⟩,_,_,rfl,rfl,_,rfl,l,_,_,_,rfl,rfl,h2,rfl,_,_,rfl,rfl,_,_,rfl,rfl,(by show (0:Int) < 2147483587; decide), ?_⟩
  refine ⟨_,rfl,_,rfl,_,_,rfl,rfl,hm, ?_⟩
  exact q _ _ (Int.emod_nonneg _ (by omega)) (Int.emod_lt_of_pos _ hm) (step_upd _ _ _ _)
theorem ok_number (F:Uj K "_law_number" "_law_number" s_law_number f fd) (m:Bn mg) (g_law_draw:Fn P w K mg base 1 "_law_draw" ["_law_feed_here","_law_many"] spDraw):Yy P w K mg base Um 2 f fd ["_law_feed_here"] (spIntD fun n => 1 ≤ n∧n ≤ 999):=by
 refine F.ok sc_law_number (fun vs H Q E h => ?_) (fun cdv A outer s H vs Q E hr h => ?_)
 ·obtain ⟨l,rfl,_⟩:=h
  rfl
 obtain ⟨l,rfl,fe,q⟩:=h
 refine ⟨_,(@Zj _ _ _ _ _ (@Zy _ 1 _ _ _ _ _ sc_law_number.nd rfl (by trivial) (@Y2 _ _ _ _ (@Ys _ _ _ _ _ Zx (@Ys _ _ _ _ _ Zx (@Ys _ _ _ _ _ Zx (@Ys _ _ _ _ _ Zx (@Ys _ _ _ _ _ Zx (@Ys _ _ _ _ _ Zx (@Ys _ _ _ _ _ Zx (@Ys _ _ _ _ _ Zx (@Ys _ _ _ _ _ Zx (@Ys _ _ _ _ _ Zx (@Ys _ _ _ _ _ Zx (@Ys _ _ _ _ _ Zx (@Ys _ _ _ _ _ Zx Zz rfl) rfl) rfl) rfl) rfl) rfl) rfl) rfl) rfl) rfl) rfl) rfl) rfl)) rfl (by trivial)) (@Zj _ _ _ _ _ (@Z8 _ _ _ _ _ _ _ _ (@Zm _ _ _ _ _ _ _ _ Yf (@Zw _ _ _ _ _ _ _ _ _ _ g_law_draw hr.m rfl (@Ys _ _ _ _ _ (pv 0) (@Ys _ _ _ _ _ Zx Zz rfl) rfl) (by decide) rfl rfl) Zx (Zt _)) (@Zv _ _ _ (@Zd _ _ _ _ (@Zf _ _ _ _ _ _ _ _ Z1 Zx (@Zw _ _ _ _ _ _ _ _ _ _ g_law_draw hr.m rfl (@Ys _ _ _ _ _ (pv 0) (@Ys _ _ _ _ _ Zx Zz rfl) rfl) (by decide) rfl rfl)))) Za) (@Zv _ _ _ (@Zd _ _ _ _ (@Zr _ _ _ _ _ _ _ Yo (pv 1) (@Zw _ _ _ _ _ _ _ _ _ _ g_law_draw hr.m rfl (@Ys _ _ _ _ _ (pv 0) (@Ys _ _ _ _ _ Zx Zz rfl) rfl) (by decide) rfl rfl) (fun _ _ => rfl)))))), ?_⟩
 refine ⟨(sz 13),fun p hp => ?_⟩
 have np:=fe.ne hp
 have t0:=(Vn.refl fe).lay (o:=.lst ([1,2,9,10,99,100,127,128,129,255,256,998,999].map V.int)) fe hp
 refine ⟨_,rfl,l,3,rfl,t0.feed,by decide,by decide,fun r1 H1 _ _ t1 => ⟨rfl,_,rfl, ?_⟩⟩
 refine ite2 (fun c => ?_) (fun c => ?_)
 ·exact ⟨_,rfl,l,999,rfl,t1.feed,by decide,by decide,fun r2 H2 a2 b2 t2 => ⟨_,_,rfl,rfl,q _ H2 ⟨by omega,by omega⟩ ((t0.trans t1).trans t2)⟩⟩
 ·refine ⟨_,rfl,_,rfl,l,13,rfl,t1.feed,by decide,by decide,fun r2 H2 a b t2 => ?_⟩
  obtain ⟨n,mn,hn⟩:=pickI [1,2,9,10,99,100,127,128,129,255,256,998,999] a b
  exact ⟨p,_,_,_,rfl,rfl,Ym.of (t2.keep _ _ np (t1.keep _ _ np Zq)),hn,q _ H2 (by simp only [List.mem_cons,List.not_mem_nil,or_false] at mn; omega) ((t0.trans t1).trans t2)⟩
theorem ok_whole (F:Uj K "_law_whole" "_law_whole" s_law_whole f fd) (m:Bn mg) (g_law_draw:Fn P w K mg base 1 "_law_draw" ["_law_feed_here","_law_many"] spDraw):Yy P w K mg base Um 2 f fd ["_law_feed_here"] (spIntD fun n => -1000000000000000000 ≤ n∧n ≤ 1000000000000000000):=by
 refine F.ok sc_law_whole (fun vs H Q E h => ?_) (fun cdv A outer s H vs Q E hr h => ?_)
 ·obtain ⟨l,rfl,_⟩:=h
  rfl
 obtain ⟨l,rfl,fe,q⟩:=h
 refine ⟨_,(@Zj _ _ _ _ _ (@Zy _ 1 _ _ _ _ _ sc_law_whole.nd rfl (by trivial) (@Y2 _ _ _ _ (Zg Zx (Zg Zx (Zg (@pe_un _ _ _ _ _ _ un_neg Zx) (Zg Zx (Zg Zx (Zg (@pe_un _ _ _ _ _ _ un_neg Zx) (Zg (@pe_un _ _ _ _ _ _ un_neg Zx) (Zg Zx (Zg Zx (Zg Zx (Zg (@pe_un _ _ _ _ _ _ un_neg Zx) (Zg (@pe_un _ _ _ _ _ _ un_neg Zx) (Zg (@Zf _ _ _ _ _ _ _ _ op_pow Zx Zx) (Zg (@pe_un _ _ _ _ _ _ un_neg (@Zf _ _ _ _ _ _ _ _ op_pow Zx Zx)) (Zg (@Zf _ _ _ _ _ _ _ _ Ug (@Zf _ _ _ _ _ _ _ _ op_pow Zx Zx) Zx) (Zg (@Zf _ _ _ _ _ _ _ _ Ug Zx (@Zf _ _ _ _ _ _ _ _ op_pow Zx Zx)) Zz rfl) rfl) rfl) rfl) rfl) rfl) rfl) rfl) rfl) rfl) rfl) rfl) rfl) rfl) rfl) rfl)) rfl (by trivial)) (@Zj _ _ _ _ _ (@Z8 _ _ _ _ _ _ _ _ (@Zm _ _ _ _ _ _ _ _ Yf (@Zw _ _ _ _ _ _ _ _ _ _ g_law_draw hr.m rfl (Zg (pv 0) (Zg Zx Zz rfl) rfl) (by decide) rfl rfl) Zx (Zt _)) (@Zv _ _ _ (@Zd _ _ _ _ (@Zr _ _ _ _ _ _ _ Yo (pv 1) (@Zw _ _ _ _ _ _ _ _ _ _ g_law_draw hr.m rfl (Zg (pv 0) (Zg Zx Zz rfl) rfl) (by decide) rfl rfl) (fun _ _ => rfl)))) Za) (@Zj _ _ _ _ _ (@Zy _ 2 _ _ _ _ _ sc_law_whole.nd rfl (by trivial) (@Zf _ _ _ _ _ _ _ _ Vu (@Zf _ _ _ _ _ _ _ _ Vp (@Zw _ _ _ _ _ _ _ _ _ _ g_law_draw hr.m rfl (Zg (pv 0) (Zg (@Zf _ _ _ _ _ _ _ _ op_pow Zx Zx) Zz rfl) rfl) (by decide) rfl rfl) (@Zr _ _ _ _ _ _ _ Yo (@Y2 _ _ _ _ (Zg Zx (Zg (@Zf _ _ _ _ _ _ _ _ op_pow Zx Zx) (Zg (@Zf _ _ _ _ _ _ _ _ op_pow Zx Zx) Zz rfl) rfl) rfl)) (@Zw _ _ _ _ _ _ _ _ _ _ g_law_draw hr.m rfl (Zg (pv 0) (Zg Zx Zz rfl) rfl) (by decide) rfl rfl) (fun _ _ => rfl))) (@Zf _ _ _ _ _ _ _ _ Z1 (@Zf _ _ _ _ _ _ _ _ op_pow Zx Zx) Zx)) rfl (by trivial)) (@Zv _ _ _ (@Zd _ _ _ _ (@Zr _ _ _ _ _ _ _ Yo (@Y2 _ _ _ _ (Zg (pv 2) (Zg (@pe_un _ _ _ _ _ _ un_neg (pv 2)) Zz rfl) rfl)) (@Zw _ _ _ _ _ _ _ _ _ _ g_law_draw hr.m rfl (Zg (pv 0) (Zg Zx Zz rfl) rfl) (by decide) rfl rfl) (fun _ _ => rfl))))))), ?_⟩
 have pw:CPow 10 18:=⟨by decide,by decide,by decide⟩
 refine ⟨_,rfl,_,rfl,_,rfl,_,rfl,_,rfl,_,_,rfl,rfl,pw,_,_,rfl,rfl,pw,_,rfl,_,_,rfl,rfl,pw,_,_,rfl,rfl,_,_,rfl,rfl,pw,_,_,rfl,rfl,(sz 16),fun p hp => ?_⟩
 have np:=fe.ne hp
 have t0:=(Vn.refl fe).lay (o:=.lst ([0,1, -1,63,64, -64, -65,127,8191,8192, -8192, -8193,(10:Int) ^ (18:Int).toNat, -((10:Int) ^ (18:Int).toNat),(10:Int) ^ (18:Int).toNat - 1,1 - (10:Int) ^ (18:Int).toNat].map V.int)) fe hp
 refine ⟨_,rfl,l,3,rfl,t0.feed,by decide,by decide,fun r1 H1 _ _ t1 => ⟨rfl,_,rfl, ?_⟩⟩
 refine ite2 (fun c => ?_) (fun c => ?_)
 ·refine ⟨_,rfl,_,rfl,l,16,rfl,t1.feed,by decide,by decide,fun r2 H2 a b t2 => ?_⟩
  obtain ⟨n,mn,hn⟩:=pickI [0,1, -1,63,64, -64, -65,127,8191,8192, -8192, -8193,(10:Int) ^ (18:Int).toNat, -((10:Int) ^ (18:Int).toNat),(10:Int) ^ (18:Int).toNat - 1,1 - (10:Int) ^ (18:Int).toNat] a b
  exact ⟨p,_,_,_,rfl,rfl,Ym.of (t2.keep _ _ np (t1.keep _ _ np Zq)),hn,q _ H2 (by rw [show (10:Int) ^ (18:Int).toNat = 1000000000000000000 from rfl] at mn; simp only [List.mem_cons,List.not_mem_nil,or_false] at mn; omega) ((t0.trans t1).trans t2)⟩
 ·have t01:=t0.trans t1
  refine ⟨_,rfl,_,_,rfl,rfl,⟨by decide,by decide,by decide⟩,l,10 ^ (9:Int).toNat,rfl,t1.feed,by decide,by decide,fun r2 H2 a2 b2 t2 => ?_⟩
  have t02:=t01.trans t2
  refine ⟨_,_,rfl,rfl,⟨by decide,by decide,by decide⟩,_,_,rfl,rfl,⟨by decide,by decide,by decide⟩,(sz 3),fun p2 hp2 => ?_⟩
  have t03:=t02.lay (o:=.lst ([1,(10:Int) ^ (5:Int).toNat,(10:Int) ^ (9:Int).toNat].map V.int)) fe hp2
  have np2:=t02.feed.ne hp2
  refine ⟨_,rfl,l,3,rfl,t03.feed,by decide,by decide,fun r3 H3 a3 b3 t3 => ?_⟩
  obtain ⟨n3,m3,hn3⟩:=pickI [1,(10:Int) ^ (5:Int).toNat,(10:Int) ^ (9:Int).toNat] a3 b3
  have b2':r2 < 1000000000:=b2
  refine ⟨p2,_,_,_,rfl,rfl,Ym.of (t3.keep _ _ np2 Zq),hn3,_,_,rfl,rfl,.inl ⟨by omega,by omega⟩,_,_,rfl,rfl,pw,_,_,rfl,rfl,_,_,rfl,rfl,(by show (0:Int) < 10 ^ (18:Int).toNat + 1; decide), ?_⟩
  have t04:=t03.trans t3
  refine ⟨_,rfl,_,rfl,_,rfl,(sz 2),fun p4 hp4 => ?_⟩
  have t05:=t04.lay (o:=.lst ([r2 * n3 % ((10:Int) ^ (18:Int).toNat + 1), -(r2 * n3 % ((10:Int) ^ (18:Int).toNat + 1))].map V.int)) fe hp4
  have np4:=t04.feed.ne hp4
  refine ⟨_,rfl,l,2,rfl,t05.feed,by decide,by decide,fun r5 H5 a5 b5 t5 => ?_⟩
  obtain ⟨n5,m5,hn5⟩:=pickI [r2 * n3 % ((10:Int) ^ (18:Int).toNat + 1), -(r2 * n3 % ((10:Int) ^ (18:Int).toNat + 1))] a5 b5
  exact ⟨p4,_,_,_,rfl,rfl,Ym.of (t5.keep _ _ np4 Zq),hn5,q _ H5 (by rw [show (10:Int) ^ (18:Int).toNat = 1000000000000000000 from rfl] at m5; simp only [List.mem_cons,List.not_mem_nil,or_false] at m5; omega) (t05.trans t5)⟩
theorem joins {c A:Prop} [Decidable c] {D:Ends} {σ:L2.St} {H:Hp} (J:L2.St→Hp→Prop) (hJ:∀ σ H,J σ H→D.nx σ H) (h1:c→(∀ σ H,J σ H→D.nx σ H)→A) (h2:¬ c→J σ H):if c then A else tNext D σ H :=
 ite2 (fun c' => h1 c' hJ) fun c' => hJ _ _ (h2 c')
theorem ok_name (F:Uj K "_law_name" "_law_name" s_law_name f fd) (m:Bn mg) (g_law_draw:Fn P w K mg base 1 "_law_draw" ["_law_feed_here","_law_many"] spDraw):Yy P w K mg base Um 2 f fd ["_law_feed_here"] (spStrD V6):=by
 refine F.ok sc_law_name (fun vs H Q E h => ?_) (fun cdv A outer s H vs Q E hr h => ?_)
 ·obtain ⟨l,rfl,_⟩:=h
  rfl
 obtain ⟨l,rfl,fe,q⟩:=h
 refine ⟨_,(@Zj _ _ _ _ _ (@Zy _ 1 _ _ _ _ _ sc_law_name.nd rfl (by trivial) (@Y2 _ _ _ _ (Zg Zc (Zg Zc (Zg Zc (Zg Zc (Zg Zc (Zg Zc (Zg Zc (Zg Zc (Zg Zc (Zg Zc Zz rfl) rfl) rfl) rfl) rfl) rfl) rfl) rfl) rfl) rfl)) rfl (by trivial)) (@Zj _ _ _ _ _ (@Z8 _ _ _ _ _ _ _ _ (@Zm _ _ _ _ _ _ _ _ Yf (@Zw _ _ _ _ _ _ _ _ _ _ g_law_draw hr.m rfl (Zg (pv 0) (Zg Zx Zz rfl) rfl) (by decide) rfl rfl) Zx (Zt _)) (@Zv _ _ _ (@Zd _ _ _ _ (@Zr _ _ _ _ _ _ _ Yo (pv 1) (@Zw _ _ _ _ _ _ _ _ _ _ g_law_draw hr.m rfl (Zg (pv 0) (Zg Zx Zz rfl) rfl) (by decide) rfl rfl) (fun _ _ => rfl)))) Za) (@Zj _ _ _ _ _ (@Zy _ 2 _ _ _ _ _ sc_law_name.nd rfl (by trivial) Zc rfl (by trivial)) (@Zv _ _ _ (@Zd _ _ _ _ (@pe_bm _ _ _ _ _ _ _ _ _ _ _ _ PySem.F.plainAttrs_str PySem.F.slot_str_join PySem.F.type_str_join mt_join Zc (Zg (@Vw _ N_law_name (Zk s_law_name) ["_law_k","_law_letters","_law_feed_here"] [none,some 2,some 0] _ _ _ _ _ _ _ _ _ _ rfl (@Vy _ _ _ _ _ _ rfl m.range (Zg (@Zf _ _ _ _ _ _ _ _ Z1 Zx (@Zw _ _ _ _ _ _ _ _ _ _ g_law_draw hr.m rfl (Zg (pv 0) (Zg Zx Zz rfl) rfl) (by decide) rfl rfl)) Zz rfl) (by trivial)) ⟨rfl,rfl,by decide +kernel,by decide +kernel⟩ (fun _ _ _ => (@Z0 _ 0 _ _ (show List.Nodup (["_law_k","_law_letters","_law_feed_here"]:List Str) from by decide +kernel) rfl (Or.inl rfl) (by trivial))) (fun _ _ _ => Vf) (fun _ _ _ => (@Zr _ _ _ _ _ _ _ ix_str (pv 1) (@Zw _ _ _ _ _ _ _ _ _ _ g_law_draw hr.m rfl (Zg (pv 2) (Zg Zx Zz rfl) rfl) (by decide) rfl rfl) (fun _ _ => rfl))) (by trivial)) Zz rfl) (by trivial) (by trivial) (by trivial) (by trivial) (by trivial))))))), ?_⟩
 refine ⟨(sz 10),fun p hp => ?_⟩
 have np:=fe.ne hp
 have t0:=(Vn.refl fe).lay (o:=.lst ((["a","ab","abc","z","zz","abcdefgh","zzzzzzzz","b","ba","row"]:List Str).map V.str)) fe hp
 refine ⟨_,rfl,l,2,rfl,t0.feed,by decide,by decide,fun r1 H1 _ _ t1 => ⟨rfl,_,rfl, ?_⟩⟩
 have t01:=t0.trans t1
 refine ite2 (fun c => ?_) (fun c => ?_)
 ·refine ⟨_,rfl,_,rfl,l,10,rfl,t1.feed,by decide,by decide,fun r2 H2 a b t2 => ?_⟩
  obtain ⟨n,mn,hn⟩:=pickS ["a","ab","abc","z","zz","abcdefgh","zzzzzzzz","b","ba","row"] a b
  exact ⟨p,_,_,_,rfl,rfl,Ym.of (t2.keep _ _ np (t1.keep _ _ np Zq)),hn,q _ H2 (words_ok n mn) (t01.trans t2)⟩
 ·refine ⟨rfl,_,rfl,l,8,rfl,t1.feed,by decide,by decide,fun r2 H2 a2 b2 t2 => ?_⟩
  refine ⟨_,_,rfl,rfl,_,rfl,by omega,by omega,fun Dd fp sx hD => ?_⟩
  have t02:=t01.trans t2
  have nD:=t02.feed.ne hD
  have hD0:=t02.free fe hD
  refine comp_range (n:=(1 + r2).toNat) (fun i ys σ H5 => ∃ (ss:List Str) (o:Option V),ys = ss.map V.str∧OnesP (fun c => 97 ≤ c∧c ≤ 122) ss∧ss.length = i∧σ = [o,some (.str "abcdefghijklmnopqrstuvwxyz"),some (.ref l)]∧Vn l H H5∧H5 Dd = some (.lst ys))
   ⟨[],_,rfl,fun x mx => (List.not_mem_nil mx).elim,rfl,rfl,t02.put nD hD0,Zq⟩ ?_ ?_ ?_
  ·rintro i ys σ H5 hi ⟨ss,o,rfl,o1,l1,rfl,t5,h5⟩
   exact h5
  ·rintro i ys σ H5 hi ⟨ss,o,rfl,o1,l1,rfl,t5,h5⟩
   refine nameT ?_
   refine ⟨_,rfl,_,rfl,l,26,rfl,t5.feed,by decide,by decide,fun r6 H6 a6 b6 t6 => ?_⟩
   obtain ⟨c,mc,hc⟩:=pickC (Str.cps "abcdefghijklmnopqrstuvwxyz").toList a6 (by rw [show (Str.cps "abcdefghijklmnopqrstuvwxyz").toList.length = 26 by decide +kernel]; exact b6)
   refine ⟨_,_,_,rfl,rfl,(by decide +kernel),hc,t6.keep _ _ nD h5, ?_,ss ++ [⟨#[c]⟩],_, ?_,ones_more o1 (let_ok c mc), ?_,rfl,(t5.trans t6).put nD hD0,Zq⟩
   ·rw [List.length_map]; exact Vv (by omega)
   ·rw [List.map_append]; rfl
   ·rw [List.length_append,List.length_singleton]; omega
  ·rintro ys σ H5 ⟨ss,o,rfl,o1,l1,rfl,t5,h5⟩
   refine ⟨_,Dd,ss,rfl,rfl,Ym.of h5, ?_,q _ H5 ⟨?_, ?_, ?_⟩ t5⟩
   ·rw [ones_sum o1]
    show ss.length + ss.length * 0 ≤ 16777216
    omega
   ·rw [join_len o1]; omega
   ·rw [join_len o1]; omega
   ·exact join_codes o1
theorem ok_text (F:Uj K "_law_text" "_law_text" s_law_text f fd) (m:Bn mg) (g_law_draw:Fn P w K mg base 1 "_law_draw" ["_law_feed_here","_law_many"] spDraw):Yy P w K mg base Um 2 f fd ["_law_feed_here"] (spStrD textOk):=by
 refine F.ok Vt (fun vs H Q E h => ?_) (fun cdv A outer s H vs Q E hr h => ?_)
 ·obtain ⟨l,rfl,_⟩:=h
  rfl
 obtain ⟨l,rfl,fe,q⟩:=h
 refine ⟨_,(@Zj _ _ _ _ _ (@Zy _ 1 _ _ _ _ _ Vt.nd rfl (by trivial) (@Zw _ _ _ _ _ _ _ _ _ _ g_law_draw hr.m rfl (Zg (pv 0) (Zg Zx Zz rfl) rfl) (by decide) rfl rfl) rfl (by trivial)) (@Zj _ _ _ _ _ (@Z8 _ _ _ _ _ _ _ _ (@Zm _ _ _ _ _ _ _ _ Yf (@Zw _ _ _ _ _ _ _ _ _ _ g_law_draw hr.m rfl (Zg (pv 0) (Zg Zx Zz rfl) rfl) (by decide) rfl rfl) Zx (Zt _)) (@Zv _ _ _ (@Zy _ 1 _ _ _ _ _ Vt.nd rfl (by trivial) (@Zr _ _ _ _ _ _ _ Yo (@Y2 _ _ _ _ (Zg Zx (Zg Zx (Zg Zx (Zg Zx (Zg Zx (Zg Zx Zz rfl) rfl) rfl) rfl) rfl) rfl)) (@Zw _ _ _ _ _ _ _ _ _ _ g_law_draw hr.m rfl (Zg (pv 0) (Zg Zx Zz rfl) rfl) (by decide) rfl rfl) (fun _ _ => rfl)) rfl (by trivial))) Za) (@Zj _ _ _ _ _ (@Zy _ 2 _ _ _ _ _ Vt.nd rfl (by trivial) (@Zf _ _ _ _ _ _ _ _ op_add_str (@Zf _ _ _ _ _ _ _ _ op_add_str (@Zf _ _ _ _ _ _ _ _ op_add_str Zc Zc) Zc) Zc) rfl (by trivial)) (@Zj _ _ _ _ _ (@Zy _ 2 _ _ _ _ _ Vt.nd rfl (by trivial) (@Zf _ _ _ _ _ _ _ _ op_add_str (pv 2) Zc) rfl (by trivial)) (@Zj _ _ _ _ _ (@Zy _ 3 _ _ _ _ _ Vt.nd rfl (by trivial) (@Zw _ _ _ _ _ _ _ _ _ _ g_law_draw hr.m rfl (Zg (pv 0) (Zg Zx Zz rfl) rfl) (by decide) rfl rfl) rfl (by trivial)) (@Zj _ _ _ _ _ (@Zy _ 4 _ _ _ _ _ Vt.nd rfl (by trivial) (@Zf _ _ _ _ _ _ _ _ Z1 Zx (@Zw _ _ _ _ _ _ _ _ _ _ g_law_draw hr.m rfl (Zg (pv 0) (Zg Zx Zz rfl) rfl) (by decide) rfl rfl)) rfl (by trivial)) (@Zv _ _ _ (@Zd _ _ _ _ (@pe_bm _ _ _ _ _ _ _ _ _ _ _ _ PySem.F.plainAttrs_str PySem.F.slot_str_join PySem.F.type_str_join mt_join Zc (Zg (@Vw _ N_law_text (Zk s_law_text) ["_law_k","_law_signs","_law_start","_law_step"] [none,some 2,some 3,some 4] _ _ _ _ _ _ _ _ _ _ rfl (@Vy _ _ _ _ _ _ rfl m.range (Zg (pv 1) Zz rfl) (by trivial)) ⟨rfl,rfl,by decide +kernel,by decide +kernel⟩ (fun _ _ _ => (@Z0 _ 0 _ _ (show List.Nodup (["_law_k","_law_signs","_law_start","_law_step"]:List Str) from by decide +kernel) rfl (Or.inl rfl) (by trivial))) (fun _ _ _ => Vf) (fun _ _ _ => (@Zr _ _ _ _ _ _ _ ix_str (pv 1) (@Zf _ _ _ _ _ _ _ _ Vu (@Zf _ _ _ _ _ _ _ _ Z1 (pv 2) (@Zf _ _ _ _ _ _ _ _ Vp (pv 3) (pv 0))) Zx) (fun _ _ => rfl))) (by trivial)) Zz rfl) (by trivial) (by trivial) (by trivial) (by trivial) (by trivial)))))))))), ?_⟩
 refine ⟨_,rfl,l,5,rfl,fe,by decide,by decide,fun r1 H1 a1 b1 t1 => ?_⟩
 refine ⟨_,rfl,l,12,rfl,t1.feed,by decide,by decide,fun r2 H2 _ _ t2 => ⟨rfl,_,rfl, ?_⟩⟩
 have t02:=t1.trans t2
 refine joins (fun σ H3 => ∃ many:Int,0 ≤ many∧many ≤ 200∧σ = [some (.ref l),some (.int many),none,none,none]∧Vn l H H3) ?_ (fun c k => ?_) (fun c => ⟨r1,a1,by omega,rfl,t02⟩)
 ·rintro σ H3 ⟨many,m0,m1,rfl,t3⟩
  refine ⟨_,_,rfl,rfl,(by decide +kernel),_,_,rfl,rfl,(by decide +kernel),_,_,rfl,rfl,(by decide +kernel), ?_⟩
  refine ⟨_,rfl,_,_,rfl,rfl,(by decide +kernel), ?_⟩
  generalize hz : ((((" !#$&'()*+,-./0123456789:;<=>?\x40[]^_{|}~" : Str) ++ ("\"" : Str)) ++ ("\\" : Str)) ++ ("`" : Str)) ++ ("ABCDEFGHIJKLMNOPQRSTUVWXYZabcdefghijklmnopqrstuvwxyz" : Str) = z
  have zl:z.cps.toList.length = 94:=by rw [← hz]; decide +kernel
  have zl2:z.length ≤ sizeLine:=by rw [← hz]; decide +kernel
  have zg:∀ c ∈ z.cps.toList,gdC c:=by rw [← hz]; exact signs_ok
  refine ⟨_,rfl,l,94,rfl,t3.feed,by decide,by decide,fun r4 H4 a4 b4 t4 => ?_⟩
  refine ⟨_,rfl,l,93,rfl,t4.feed,by decide,by decide,fun r5 H5 a5 b5 t5 => ⟨_,_,rfl,rfl, ?_⟩⟩
  have t06:=(t3.trans t4).trans t5
  refine ⟨rfl,_,rfl,many,rfl,by omega,by omega,fun Dd fp sx hD => ?_⟩
  have nD:=t06.feed.ne hD
  have hD0:=t06.free fe hD
  refine comp_range (n:=many.toNat) (fun i ys σ H5 => ∃ (ss:List Str) (o:Option V),ys = ss.map V.str∧OnesP gdC ss∧ss.length = i∧σ = [o,some (.str z),some (.int r4),some (.int (1 + r5))]∧Vn l H H5∧H5 Dd = some (.lst ys))
   ⟨[],_,rfl,fun x mx => (List.not_mem_nil mx).elim,rfl,rfl,t06.put nD hD0,Zq⟩ ?_ ?_ ?_
  ·rintro i ys σ H5 hi ⟨ss,o,rfl,o1,l1,rfl,t5,h5⟩
   exact h5
  ·rintro i ys σ H5 hi ⟨ss,o,rfl,o1,l1,rfl,t5,h5⟩
   refine nameT ?_
   obtain ⟨c,mc,hc⟩:=pickC z.cps.toList (r:=(r4 + (1 + r5) * (0 + (i:Int))) % 94) (by omega) (by rw [zl]; omega)
   refine ⟨_,rfl,_,rfl,_,rfl,_,rfl,_,_,rfl,rfl,.inl ⟨by omega,by omega⟩,_,_,rfl,rfl,_,_,rfl,rfl,(by show (0:Int) < 94; decide),_,_,_,rfl,rfl,zl2,hc,h5, ?_,ss ++ [⟨#[c]⟩],_, ?_,ones_more o1 (zg c mc), ?_,rfl,t5.put nD hD0,Zq⟩
   ·rw [List.length_map]; exact Vv (by omega)
   ·rw [List.map_append]; rfl
   ·rw [List.length_append,List.length_singleton]; omega
  ·rintro ys σ H5 ⟨ss,o,rfl,o1,l1,rfl,t5,h5⟩
   refine ⟨_,Dd,ss,rfl,rfl,Ym.of h5, ?_,q _ H5 ⟨?_, ?_⟩ t5⟩
   ·rw [ones_sum o1]
    show ss.length + ss.length * 0 ≤ 16777216
    omega
   ·rw [join_len o1]; omega
   ·exact join_codes o1
 ·refine ⟨(sz 6),fun p hp => ?_⟩
  have t03:=t02.lay (o:=.lst ([126,127,128,129,199,200].map V.int)) fe hp
  have np:=t02.feed.ne hp
  refine ⟨_,rfl,l,6,rfl,t03.feed,by decide,by decide,fun r3 H3 a3 b3 t3 => ?_⟩
  obtain ⟨n3,m3,hn3⟩:=pickI [126,127,128,129,199,200] a3 b3
  refine ⟨p,_,_,_,rfl,rfl,Ym.of (t3.keep _ _ np Zq),hn3,k _ _ ⟨n3, ?_, ?_,rfl,t03.trans t3⟩⟩
  ·simp only [List.mem_cons,List.not_mem_nil,or_false] at m3
   omega
  ·simp only [List.mem_cons,List.not_mem_nil,or_false] at m3
   omega
end
abbrev s_law_item:Stmt:=top 53
abbrev N_law_item:List Str:=["_law_feed_here","_law_deep","_law_kind","_law_many","_law_parts_here","_law_keys"]
theorem V9:Zs N_law_item ["_law_feed_here","_law_deep"] (Zk s_law_item):=by trivial
def Gd:Good:=⟨fun n => -1000000000000000000 ≤ n∧n ≤ 1000000000000000000,textOk,V6,fun n => 1 ≤ n∧n ≤ 999,fun ks => (∀ x ∈ ks,V6 x)∧adj ltS ks,fun ks => (∀ n ∈ ks,1 ≤ n∧n ≤ 999)∧ks.Pairwise (· < ·)⟩
def spItem (K:W.Frag) (G:Good) (d:Nat):Sp:=fun vs H Q _ => ∃ l:Addr,vs = [.ref l,.int d]∧Feed H l∧∀ (r:V) (e:D) (H':Hp),Itm G (d + 1) e→Yv K H' e r→Vn l H H'→Q r H'
def spI (K:W.Frag) (G:Good):Nat→Sp
 | 0 => fun _ _ _ _ => False
 | d + 1 => spItem K G d
theorem pairs_take:∀ as bs:List D,Yn as bs = Yn as (bs.take as.length)
 | [],bs => by simp [Yn]
 | a :: as,[] => by simp
 | a :: as,b :: bs => by
  simp only [Yn,List.length_cons,List.take_succ_cons]
  rw [← pairs_take as bs]
theorem areS {K:W.Frag} {H:Hp}:∀ xs:List Str,Zn K H (xs.map D.str) (xs.map V.str)
 | [] => rfl
 | x :: xs => ⟨.str x,xs.map V.str,rfl,rfl,areS xs⟩
theorem areI {K:W.Frag} {H:Hp}:∀ xs:List Int,Zn K H (xs.map D.int) (xs.map V.int)
 | [] => rfl
 | x :: xs => ⟨.int x,xs.map V.int,rfl,rfl,areI xs⟩
theorem nodup_inr {zs:List Str} (h:(zs.map (Sum.inr:Str→Key)).Nodup):zs.Nodup:=by
 induction zs with
 | nil => exact .nil
 | cons z zs ih =>
  have h':=List.nodup_cons.mp h
  exact List.nodup_cons.mpr ⟨fun m => h'.1 (List.mem_map.mpr ⟨z,m,rfl⟩),ih h'.2⟩
theorem nodup_inl {zs:List Int} (h:(zs.map (Sum.inl:Int→Key)).Nodup):zs.Nodup:=by
 induction zs with
 | nil => exact .nil
 | cons z zs ih =>
  have h':=List.nodup_cons.mp h
  exact List.nodup_cons.mpr ⟨fun m => h'.1 (List.mem_map.mpr ⟨z,m,rfl⟩),ih h'.2⟩
theorem all_inr:∀ {us:List Key} {ss:List Str},(∀ x,x ∈ us→x ∈ ss.map Sum.inr)→∃ zs:List Str,us = zs.map Sum.inr
 | [],_,_ => ⟨[],rfl⟩
 | u :: us,ss,h => by
  obtain ⟨s,_,rfl⟩:=List.mem_map.mp (h u List.mem_cons_self)
  obtain ⟨zs,rfl⟩:=all_inr (us:=us) fun x mx => h x (List.mem_cons_of_mem _ mx)
  exact ⟨s :: zs,rfl⟩
theorem all_inl:∀ {us:List Key} {ss:List Int},(∀ x,x ∈ us→x ∈ ss.map Sum.inl)→∃ zs:List Int,us = zs.map Sum.inl
 | [],_,_ => ⟨[],rfl⟩
 | u :: us,ss,h => by
  obtain ⟨s,_,rfl⟩:=List.mem_map.mp (h u List.mem_cons_self)
  obtain ⟨zs,rfl⟩:=all_inl (us:=us) fun x mx => h x (List.mem_cons_of_mem _ mx)
  exact ⟨s :: zs,rfl⟩
section
variable {P:Program} {w:World} {K:W.Frag} {mg:Str→Option Value} {base:Heap} {f:Addr} {fd:FuncData}
theorem ok_item (F:Uj K "_law_item" "_law_item" s_law_item f fd) (m:Bn mg) (bd:Binds K fd ["_law_feed_here","_law_deep"] []) (mf:mg "_law_item" = some (.ref f)) (g_law_draw:Fn P w K mg base 1 "_law_draw" ["_law_feed_here","_law_many"] spDraw)
  (g_law_name:Fn P w K mg base 2 "_law_name" ["_law_feed_here"] (spStrD V6)) (g_law_text:Fn P w K mg base 2 "_law_text" ["_law_feed_here"] (spStrD textOk)) (g_law_number:Fn P w K mg base 2 "_law_number" ["_law_feed_here"] (spIntD fun n => 1 ≤ n∧n ≤ 999)) (g_law_whole:Fn P w K mg base 2 "_law_whole" ["_law_feed_here"] (spIntD fun n => -1000000000000000000 ≤ n∧n ≤ 1000000000000000000)) :
  ∀ d,Yy P w K mg base Um (d + 2) f fd ["_law_feed_here","_law_deep"] (spI K Gd d)
 | 0 => ⟨fun vs H Q E h => h.elim,fun A outer s H args us vs Q E _ _ _ _ h => h.elim⟩
 | d + 1 => by
  have g_law_item:Fn P w K mg base (d + 2) "_law_item" ["_law_feed_here","_law_deep"] (spI K Gd d):=⟨f,fd,ok_item F m bd mf g_law_draw g_law_name g_law_text g_law_number g_law_whole d,bd,F.kp,mf⟩
  refine F.ok V9 (fun vs H Q E h => ?_) (fun cdv A outer s H vs Q E hr h => ?_)
  ·obtain ⟨l,rfl,_⟩:=h
   rfl
  obtain ⟨l,rfl,fe,q⟩:=h
  refine ⟨_,(@Zj _ _ _ _ _ (@Zy _ 2 _ _ _ _ _ V9.nd rfl (by trivial) (@Zw _ _ _ _ _ _ _ _ _ _ g_law_draw hr.m rfl (Zg (pv 0) (Zg Zx Zz rfl) rfl) (by decide) rfl rfl) rfl (by trivial)) (@Zj _ _ _ _ _ (@Z8 _ _ _ _ _ _ _ _ (@PW.pt _ _ _ (@pw_or _ _ _ _ _ _ _ (@Zm _ _ _ _ _ _ _ _ Yf (pv 1) Zx (Zt _)) (@pw_or1 _ _ _ _ (@Zm _ _ _ _ _ _ _ _ op_lt (pv 2) Zx (Zt _))))) (@Zj _ _ _ _ _ (@Z8 _ _ _ _ _ _ _ _ (@Zm _ _ _ _ _ _ _ _ Yf (@Zf _ _ _ _ _ _ _ _ Vu (pv 2) Zx) Zx (Zt _)) (@Zv _ _ _ (@Zd _ _ _ _ (@Z3 _ _ _ _ _ (Zg Zc (Zg (@Zw _ _ _ _ _ _ _ _ _ _ g_law_whole hr.m rfl (Zg (pv 0) Zz rfl) (by decide) rfl rfl) Zz rfl) rfl)))) Za) (@Zv _ _ _ (@Zd _ _ _ _ (@Z3 _ _ _ _ _ (Zg Zc (Zg (@Zw _ _ _ _ _ _ _ _ _ _ g_law_text hr.m rfl (Zg (pv 0) Zz rfl) (by decide) rfl rfl) Zz rfl) rfl))))) Za) (@Zj _ _ _ _ _ (@Z8 _ _ _ _ _ _ _ _ (@Zm _ _ _ _ _ _ _ _ Yf (pv 2) Zx (Zt _)) (@Zv _ _ _ (@Zd _ _ _ _ (@Z3 _ _ _ _ _ (Zg Zc (Zg (@Zw _ _ _ _ _ _ _ _ _ _ g_law_number hr.m rfl (Zg (pv 0) Zz rfl) (by decide) rfl rfl) (Zg (@Zw _ _ _ _ _ _ _ _ _ _ g_law_item hr.m rfl (Zg (pv 0) (Zg (@Zf _ _ _ _ _ _ _ _ Ug (pv 1) Zx) Zz rfl) rfl) (by decide) rfl rfl) Zz rfl) rfl) rfl)))) Za) (@Zj _ _ _ _ _ (@Zy _ 3 _ _ _ _ _ V9.nd rfl (by trivial) (@Zw _ _ _ _ _ _ _ _ _ _ g_law_draw hr.m rfl (Zg (pv 0) (Zg Zx Zz rfl) rfl) (by decide) rfl rfl) rfl (by trivial)) (@Zj _ _ _ _ _ (@ps_setCompI _ 4 N_law_item (Zk s_law_item) ["_law_k","_law_feed_here","_law_deep"] [none,some 0,some 1] _ _ _ _ _ _ _ _ _ _ _ _ _ V9.nd rfl (by trivial) rfl (@Vy _ _ _ _ _ _ rfl m.range (Zg (pv 3) Zz rfl) (by trivial)) ⟨rfl,rfl,by decide +kernel,by decide +kernel⟩ (fun _ _ _ => (@Z0 _ 0 _ _ (show List.Nodup (["_law_k","_law_feed_here","_law_deep"]:List Str) from by decide +kernel) rfl (Or.inl rfl) (by trivial))) (fun _ _ _ => Vf) (fun _ _ _ => (@Zw _ _ _ _ _ _ _ _ _ _ g_law_item hr.m rfl (Zg (pv 1) (Zg (@Zf _ _ _ _ _ _ _ _ Ug (pv 2) Zx) Zz rfl) rfl) (by decide) rfl rfl)) (by trivial) (by trivial) (by trivial)) (@Zj _ _ _ _ _ (@Z8 _ _ _ _ _ _ _ _ (@Zm _ _ _ _ _ _ _ _ op_lt (pv 2) Zx (Zt _)) (@Zv _ _ _ (@Zd _ _ _ _ (@Z3 _ _ _ _ _ (Zg Zc (Zg (@Yt _ _ _ _ _ _ _ _ _ Yc rfl m.tuple b_tuple (Zg (pv 4) Zz rfl) (by trivial) (by trivial) (by trivial) (by trivial)) Zz rfl) rfl)))) Za) (@Zj _ _ _ _ _ (@Z8 _ _ _ _ _ _ _ _ (@Zm _ _ _ _ _ _ _ _ op_lt (pv 2) Zx (Zt _)) (@Zj _ _ _ _ _ (@Zy _ 5 _ _ _ _ _ V9.nd rfl (by trivial) (@Z5 _ _ _ _ _ _ _ _ _ (call_sortedS rfl) rfl m.sorted b_sorted (Zg (@Yt _ _ _ _ _ _ _ _ _ (call_setK rfl) rfl m.set b_set (Zg (@Vw _ N_law_item (Zk s_law_item) ["_law_k","_law_feed_here"] [none,some 0] _ _ _ _ _ _ _ _ _ _ rfl (@Vy _ _ _ _ _ _ rfl m.range (Zg (pv 3) Zz rfl) (by trivial)) ⟨rfl,rfl,by decide +kernel,by decide +kernel⟩ (fun _ _ _ => (@Z0 _ 0 _ _ (show List.Nodup (["_law_k","_law_feed_here"]:List Str) from by decide +kernel) rfl (Or.inl rfl) (by trivial))) (fun _ _ _ => Vf) (fun _ _ _ => (@Zw _ _ _ _ _ _ _ _ _ _ g_law_name hr.m rfl (Zg (pv 1) Zz rfl) (by decide) rfl rfl)) (by trivial)) Zz rfl) (by trivial) (by trivial) (by trivial) (by trivial)) Zz rfl) (by decide) (by decide) rfl rfl) rfl (by trivial)) (@Zv _ _ _ (@Zd _ _ _ _ (@Z3 _ _ _ _ _ (Zg Zc (Zg (@Yt _ _ _ _ _ _ _ _ _ Yc rfl m.tuple b_tuple (Zg (@pe_listZip _ _ _ _ _ _ _ _ rfl rfl m.list rfl m.zip (Zg (pv 5) (Zg (pv 4) Zz rfl) rfl) (by trivial) (by trivial) (by trivial)) Zz rfl) (by trivial) (by trivial) (by trivial) (by trivial)) Zz rfl) rfl))))) Za) (@Zj _ _ _ _ _ (@Zy _ 5 _ _ _ _ _ V9.nd rfl (by trivial) (@Z5 _ _ _ _ _ _ _ _ _ (call_sortedI rfl) rfl m.sorted b_sorted (Zg (@Yt _ _ _ _ _ _ _ _ _ (call_setK rfl) rfl m.set b_set (Zg (@Vw _ N_law_item (Zk s_law_item) ["_law_k","_law_feed_here"] [none,some 0] _ _ _ _ _ _ _ _ _ _ rfl (@Vy _ _ _ _ _ _ rfl m.range (Zg (pv 3) Zz rfl) (by trivial)) ⟨rfl,rfl,by decide +kernel,by decide +kernel⟩ (fun _ _ _ => (@Z0 _ 0 _ _ (show List.Nodup (["_law_k","_law_feed_here"]:List Str) from by decide +kernel) rfl (Or.inl rfl) (by trivial))) (fun _ _ _ => Vf) (fun _ _ _ => (@Zw _ _ _ _ _ _ _ _ _ _ g_law_number hr.m rfl (Zg (pv 1) Zz rfl) (by decide) rfl rfl)) (by trivial)) Zz rfl) (by trivial) (by trivial) (by trivial) (by trivial)) Zz rfl) (by decide) (by decide) rfl rfl) rfl (by trivial)) (@Zv _ _ _ (@Zd _ _ _ _ (@Z3 _ _ _ _ _ (Zg Zc (Zg (@Yt _ _ _ _ _ _ _ _ _ Yc rfl m.tuple b_tuple (Zg (@pe_listZip _ _ _ _ _ _ _ _ rfl rfl m.list rfl m.zip (Zg (pv 5) (Zg (pv 4) Zz rfl) rfl) (by trivial) (by trivial) (by trivial)) Zz rfl) (by trivial) (by trivial) (by trivial) (by trivial)) Zz rfl) rfl)))))))))))), ?_⟩
  refine ⟨_,rfl,l,9,rfl,fe,by decide,by decide,fun kind H1 k0 k9 t1 => ?_⟩
  refine ⟨_,rfl,rfl,_,rfl, ?_⟩
  refine ite2 (fun c => ?_) (fun c => ?_)
  ·refine ⟨_,rfl,_,_,rfl,rfl,(by show (0:Int) < 2; decide),rfl,_,rfl, ?_⟩
   refine ite2 (fun c9 => ?_) (fun c9 => ?_)
   ·refine ⟨_,rfl,l,rfl,t1.feed,fun n H2 pn t2 => ⟨(sz 2),fun p hp => ?_⟩⟩
    exact q _ (.tup [.str "whole",.int n]) _ (.inl ⟨n,rfl,pn⟩) ⟨p,_,rfl,Z9.of Zq,Zn.two rfl rfl⟩ ((t1.trans t2).lay fe hp)
   ·refine ⟨_,rfl,l,rfl,t1.feed,fun x H2 px t2 => ⟨(sz 2),fun p hp => ?_⟩⟩
    exact q _ (.tup [.str "text",.str x]) _ (.inr (.inl ⟨x,rfl,px⟩)) ⟨p,_,rfl,Z9.of Zq,Zn.two rfl rfl⟩ ((t1.trans t2).lay fe hp)
  ·refine ⟨_,rfl,_,_,rfl,rfl,_,rfl, ?_⟩
   refine ite2 (fun c2 => ?_) (fun c2 => ?_)
   ·refine ⟨_,rfl,_,_,rfl,rfl,(by show (0:Int) < 2; decide),rfl,_,rfl, ?_⟩
    refine ite2 (fun c9 => ?_) (fun c9 => ?_)
    ·refine ⟨_,rfl,l,rfl,t1.feed,fun n H2 pn t2 => ⟨(sz 2),fun p hp => ?_⟩⟩
     exact q _ (.tup [.str "whole",.int n]) _ (.inl ⟨n,rfl,pn⟩) ⟨p,_,rfl,Z9.of Zq,Zn.two rfl rfl⟩ ((t1.trans t2).lay fe hp)
    ·refine ⟨_,rfl,l,rfl,t1.feed,fun x H2 px t2 => ⟨(sz 2),fun p hp => ?_⟩⟩
     exact q _ (.tup [.str "text",.str x]) _ (.inr (.inl ⟨x,rfl,px⟩)) ⟨p,_,rfl,Z9.of Zq,Zn.two rfl rfl⟩ ((t1.trans t2).lay fe hp)
   ·have d0:d ≠ 0:=fun z => by
     subst z
     exact c rfl
    obtain ⟨d',rfl⟩:∃ d',d = d' + 1:=⟨d - 1,by omega⟩
    have ed:((d' + 1:Nat):Int) - 1 = (d':Nat):=by omega
    refine ⟨_,rfl,rfl,_,rfl, ?_⟩
    refine ite2 (fun c3 => ?_) (fun c3 => ?_)
    ·
     refine ⟨_,rfl,l,rfl,t1.feed,fun n H2 pn t2 => ?_⟩
     refine ⟨_,rfl,_,rfl,_,_,rfl,rfl,l, ?_,t2.feed,fun r e H3 ie de t3 => ?_⟩
     ·rw [← ed]; rfl
     refine ⟨(sz 3),fun p hp => ?_⟩
     have t13:=(t1.trans t2).trans t3
     refine q _ (.tup [.str "arm",.int n,e]) _ (.inr (.inr (.inl ⟨n,e,rfl,pn,ie⟩))) ⟨p,_,rfl,Z9.of Zq,_,_,rfl,rfl,_,_,rfl,rfl,Zn.one (Yv.up (Yk hp) _ _ ie.noL de)⟩ (t13.lay fe hp)
    ·refine ⟨_,rfl,l,4,rfl,t1.feed,by decide,by decide,fun many H2 m0 m4 t2 => ?_⟩
     have t12:=t1.trans t2
     refine ⟨_,rfl,many,rfl,by omega,by omega,fun Dd fp sx hD => ?_⟩
     have nD:=t12.feed.ne hD
     have hD0:=t12.free fe hD
     refine comp_range (n:=many.toNat) (fun i ys σ H5 => ∃ (es:List D) (o:Option V),σ = [o,some (.ref l),some (.int (d' + 1:Nat))]∧(∀ e ∈ es,Itm Gd (d' + 1) e)∧es.length = i∧Zn K H5 es ys∧Vn l H H5∧H5 Dd = some (.lst ys))
      ⟨[],_,rfl,(fun x mx => (List.not_mem_nil mx).elim),rfl,rfl,t12.put nD hD0,Zq⟩ ?_ ?_ ?_
     ·rintro i ys σ H5 hi ⟨es,o,rfl,ie,le,ae,t5,h5⟩
      exact h5
     ·rintro i ys σ H5 hi ⟨es,o,rfl,ie,le,ae,t5,h5⟩
      refine nameT ?_
      refine ⟨_,rfl,_,rfl,_,_,rfl,rfl,l, ?_,t5.feed,fun r e H6 ir dr t6 => ?_⟩
      ·rw [← ed]; rfl
      have h6:=t6.keep _ _ nD h5
      refine ⟨h6, ?_,es ++ [e],_,rfl, ?_, ?_,Zn.append (Zn.up ((t6.up t5.feed).trans (up_set h6)) _ _ (Itm.noLs ie) ae) (Zn.one (Yv.up (up_set h6) _ _ ir.noL dr)),(t5.trans t6).put nD hD0,Zq⟩
      ·rw [← ae.length]; exact Vv (by omega)
      ·intro x mx
       rcases List.mem_append.mp mx with mx | mx
       ·exact ie x mx
       ·rw [List.mem_singleton.mp mx]; exact ir
      ·rw [List.length_append,List.length_singleton]; omega
     ·rintro ys σ5 H5 ⟨es,o5,rfl,ie,le,ae,t5,h5⟩
      have ly:=ae.length
      have l3:es.length ≤ 3:=by omega
      refine ⟨_,rfl,_,_,rfl,rfl,_,rfl, ?_⟩
      refine ite2 (fun c4 => ?_) (fun c4 => ?_)
      ·
       refine ⟨_,rfl,Dd,ys,rfl,.inl ⟨Ym.of h5,fun p1 hp1 => ?_⟩⟩
       refine ⟨(sz 2),fun p hp => ?_⟩
       have t6:=t5.lay (o:=.tup ys) fe hp1
       refine q _ (.tup [.str "row",.tup es]) _ (.inr (.inr (.inr (.inl ⟨es,rfl,l3,ie⟩)))) ⟨p,_,rfl,Z9.of Zq,Zn.two rfl ⟨p1,ys,rfl,Yk hp _ _ (Z9.of Zq),Zn.up ((Yk hp1).trans (Yk hp)) _ _ (Itm.noLs ie) ae⟩⟩ (t6.lay fe hp)
      ·refine ⟨_,rfl,_,_,rfl,rfl,_,rfl, ?_⟩
       refine ite2 (fun c5 => ?_) (fun c5 => ?_)
       ·
        refine ⟨_,rfl,many,rfl,by omega,by omega,fun D2 fp2 sx2 hD2 => ?_⟩
        have nD2:=t5.feed.ne hD2
        have hD20:=t5.free fe hD2
        refine comp_range (n:=many.toNat) (fun i zs σ H7 => ∃ (ss:List Str) (o:Option V),σ = [o,some (.ref l)]∧zs = ss.map V.str∧ss.length = i∧(∀ x ∈ ss,V6 x)∧Vn l H5 H7∧H7 D2 = some (.lst zs))
         ⟨[],_,rfl,rfl,rfl,(fun x mx => (List.not_mem_nil mx).elim),(Vn.refl t5.feed).put nD2 hD2,Zq⟩ ?_ ?_ ?_
        ·rintro i zs σ H7 hi ⟨ss,o,rfl,rfl,ls,ps,t7,h7⟩
         exact h7
        ·rintro i zs σ H7 hi ⟨ss,o,rfl,rfl,ls,ps,t7,h7⟩
         refine nameT ?_
         refine ⟨_,rfl,l,rfl,t7.feed,fun x H8 px t8 => ?_⟩
         refine ⟨t8.keep _ _ nD2 h7, ?_,ss ++ [x],_,rfl, ?_, ?_, ?_,(t7.trans t8).put nD2 hD2,Zq⟩
         ·rw [List.length_map]; exact Vv (by omega)
         ·rw [List.map_append]; rfl
         ·rw [List.length_append,List.length_singleton]; omega
         ·intro y my
          rcases List.mem_append.mp my with my | my
          ·exact ps y my
          ·rw [List.mem_singleton.mp my]; exact px
        ·rintro zs σ7 H7 ⟨ss,o7,rfl,rfl,ls,ps,t7,h7⟩
         refine ⟨D2,ss.map Sum.inr,rfl,Ym.of (by rw [h7,List.map_map]; rfl), ?_,fun S us hS nu mu lu => ?_⟩
         ·rw [List.length_map]; show ss.length + 1 < scanBound; exact Nat.lt_of_le_of_lt (show ss.length + 1 ≤ 10 by omega) (by decide)
         obtain ⟨zs,rfl⟩:=all_inr (ss:=ss) fun x mx => (mu x).mp mx
         have lz:zs.length ≤ ss.length:=by simpa using lu
         refine ⟨S,zs,rfl,Zq,by omega,fun L ns hL pm sd => ?_⟩
         have t8:=t7.lay (o:=SetHO P w S (zs.map Sum.inr)) t5.feed hS
         have t9:=t8.lay (o:=.lst (ns.map V.str)) t5.feed hL
         have h9:Z4 (Z4 H7 S (SetHO P w S (zs.map Sum.inr))) L (.lst (ns.map V.str)) Dd = some (.lst ys):=t9.keep _ _ nD h5
         have a9:=Zn.up (K:=K) (t9.up t5.feed) es ys (Itm.noLs ie) ae
         have ln:ns.length ≤ es.length:=by rw [pm.length_eq]; omega
         refine ⟨_,rfl,_,rfl,L,Dd,_,_,rfl,Ym.of Zq,Ym.of h9,fun Z as H10 hZ s10 h10 at10 => ?_⟩
         have a10:Zn K H10 (Yn (ns.map D.str) (es.take ns.length)) (as.map V.ref):=by
          have:=Zn.pairs (K:=K) at10 (areS ns) (Zn.up s10.up _ _ (Itm.noLs ie) a9)
          rw [pairs_take,List.length_map] at this
          exact this
         refine ⟨Z,_,rfl,.inl ⟨Ym.of h10,fun p1 hp1 => ?_⟩⟩
         refine ⟨(sz 2),fun p hp => ?_⟩
         have t10:=(t5.trans t9).same s10
         have t11:=t10.lay (o:=.tup (as.map V.ref)) fe hp1
         have ie':∀ e ∈ es.take ns.length,Itm Gd (d' + 1) e:=fun e me => ie e (List.mem_of_mem_take me)
         have np:noLs (Yn (ns.map D.str) (es.take ns.length)) = true:=noLs_pairs (fun d m => by obtain ⟨x,_,rfl⟩:=List.mem_map.mp m; rfl) fun e m => (ie' e m).noL
         refine q _ (.tup [.str "map",.tup (Yn (ns.map D.str) (es.take ns.length))]) _ (.inr (.inr (.inr (.inr (.inl ⟨ns,es.take ns.length,rfl, ?_, ?_,⟨fun x mx => ?_, ?_⟩,ie'⟩))))) ⟨p,_,rfl,Z9.of Zq,Zn.two rfl ⟨p1,_,rfl,Yk hp _ _ (Z9.of Zq),Zn.up ((Yk hp1).trans (Yk hp)) _ _ np a10⟩⟩ (t11.lay fe hp)
         ·rw [List.length_take]; omega
         ·rw [List.length_take]; omega
         ·obtain ⟨y,my,ey⟩:=List.mem_map.mp ((mu (Sum.inr x)).mp (List.mem_map.mpr ⟨x,pm.mem_iff.mp mx,rfl⟩))
          cases ey
          exact ps x my
         ·exact sortedS_adj sd (pm.nodup_iff.mpr (nodup_inr nu))
       ·
        refine ⟨_,rfl,many,rfl,by omega,by omega,fun D2 fp2 sx2 hD2 => ?_⟩
        have nD2:=t5.feed.ne hD2
        have hD20:=t5.free fe hD2
        refine comp_range (n:=many.toNat) (fun i zs σ H7 => ∃ (ss:List Int) (o:Option V),σ = [o,some (.ref l)]∧zs = ss.map V.int∧ss.length = i∧(∀ x ∈ ss,1 ≤ x∧x ≤ 999)∧Vn l H5 H7∧H7 D2 = some (.lst zs))
         ⟨[],_,rfl,rfl,rfl,(fun x mx => (List.not_mem_nil mx).elim),(Vn.refl t5.feed).put nD2 hD2,Zq⟩ ?_ ?_ ?_
        ·rintro i zs σ H7 hi ⟨ss,o,rfl,rfl,ls,ps,t7,h7⟩
         exact h7
        ·rintro i zs σ H7 hi ⟨ss,o,rfl,rfl,ls,ps,t7,h7⟩
         refine nameT ?_
         refine ⟨_,rfl,l,rfl,t7.feed,fun x H8 px t8 => ?_⟩
         refine ⟨t8.keep _ _ nD2 h7, ?_,ss ++ [x],_,rfl, ?_, ?_, ?_,(t7.trans t8).put nD2 hD2,Zq⟩
         ·rw [List.length_map]; exact Vv (by omega)
         ·rw [List.map_append]; rfl
         ·rw [List.length_append,List.length_singleton]; omega
         ·intro y my
          rcases List.mem_append.mp my with my | my
          ·exact ps y my
          ·rw [List.mem_singleton.mp my]; exact px
        ·rintro zs σ7 H7 ⟨ss,o7,rfl,rfl,ls,ps,t7,h7⟩
         refine ⟨D2,ss.map Sum.inl,rfl,Ym.of (by rw [h7,List.map_map]; rfl), ?_,fun S us hS nu mu lu => ?_⟩
         ·rw [List.length_map]; show ss.length + 1 < scanBound; exact Nat.lt_of_le_of_lt (show ss.length + 1 ≤ 10 by omega) (by decide)
         obtain ⟨zs,rfl⟩:=all_inl (ss:=ss) fun x mx => (mu x).mp mx
         have lz:zs.length ≤ ss.length:=by simpa using lu
         refine ⟨S,zs,rfl,Zq,by omega,fun L ns hL pm sd => ?_⟩
         have t8:=t7.lay (o:=SetHO P w S (zs.map Sum.inl)) t5.feed hS
         have t9:=t8.lay (o:=.lst (ns.map V.int)) t5.feed hL
         have h9:Z4 (Z4 H7 S (SetHO P w S (zs.map Sum.inl))) L (.lst (ns.map V.int)) Dd = some (.lst ys):=t9.keep _ _ nD h5
         have a9:=Zn.up (K:=K) (t9.up t5.feed) es ys (Itm.noLs ie) ae
         have ln:ns.length ≤ es.length:=by rw [pm.length_eq]; omega
         refine ⟨_,rfl,_,rfl,L,Dd,_,_,rfl,Ym.of Zq,Ym.of h9,fun Z as H10 hZ s10 h10 at10 => ?_⟩
         have a10:Zn K H10 (Yn (ns.map D.int) (es.take ns.length)) (as.map V.ref):=by
          have:=Zn.pairs (K:=K) at10 (areI ns) (Zn.up s10.up _ _ (Itm.noLs ie) a9)
          rw [pairs_take,List.length_map] at this
          exact this
         refine ⟨Z,_,rfl,.inl ⟨Ym.of h10,fun p1 hp1 => ?_⟩⟩
         refine ⟨(sz 2),fun p hp => ?_⟩
         have t10:=(t5.trans t9).same s10
         have t11:=t10.lay (o:=.tup (as.map V.ref)) fe hp1
         have ie':∀ e ∈ es.take ns.length,Itm Gd (d' + 1) e:=fun e me => ie e (List.mem_of_mem_take me)
         have np:noLs (Yn (ns.map D.int) (es.take ns.length)) = true:=noLs_pairs (fun d m => by obtain ⟨x,_,rfl⟩:=List.mem_map.mp m; rfl) fun e m => (ie' e m).noL
         refine q _ (.tup [.str "rec",.tup (Yn (ns.map D.int) (es.take ns.length))]) _ (.inr (.inr (.inr (.inr (.inr ⟨ns,es.take ns.length,rfl, ?_, ?_,⟨fun x mx => ?_, ?_⟩,ie'⟩))))) ⟨p,_,rfl,Z9.of Zq,Zn.two rfl ⟨p1,_,rfl,Yk hp _ _ (Z9.of Zq),Zn.up ((Yk hp1).trans (Yk hp)) _ _ np a10⟩⟩ (t11.lay fe hp)
         ·rw [List.length_take]; omega
         ·rw [List.length_take]; omega
         ·obtain ⟨y,my,ey⟩:=List.mem_map.mp ((mu (Sum.inl x)).mp (List.mem_map.mpr ⟨x,pm.mem_iff.mp mx,rfl⟩))
          cases ey
          exact ps x my
         ·exact sortedI_adj sd (pm.nodup_iff.mpr (nodup_inl nu))
end
end K06
namespace K03
def Lf:Nat→Int→List Int
 | 0,n => [n]
 | k + 1,n => if 128 ≤ n then (n % 128 + 128) :: Lf k (n / 128) else [n]
theorem Ve (k:Nat) {n:Int} (h:n < 128):Lf k n = [n]:=by
 cases k with
 | zero => rfl
 | succ k => simp only [Lf]; rw [if_neg (by omega)]
theorem Lf_big (k:Nat) {n:Int} (h:128 ≤ n):Lf (k + 1) n = (n % 128 + 128) :: Lf k (n / 128):=by
 simp only [Lf]; rw [if_pos h]
theorem pow_step (k:Nat):(128:Int) ^ (k + 1 + 1) = 128 * 128 ^ (k + 1):=by rw [Int.pow_succ (128:Int) (k + 1),Int.mul_comm]
theorem div_lt {n:Int} {k:Nat} (h:n < 128 ^ (k + 1 + 1)):n / 128 < 128 ^ (k + 1):=by
 rw [pow_step] at h
 generalize (128:Int) ^ (k + 1) = p at h ⊢
 omega
theorem more {n:Int} {k:Nat} (h:128 ≤ n) (h2:n < 128 ^ (k + 1)):∃ j,k = j + 1:=by
 cases k with
 | zero => simp at h2; omega
 | succ k => exact ⟨k,rfl⟩
theorem Lf_len:∀ (k:Nat) (n:Int),(Lf k n).length ≤ k + 1
 | 0,n => by simp [Lf]
 | k + 1,n => by
  simp only [Lf]
  split
  ·have:=Lf_len k (n / 128)
   simp only [List.length_cons]; omega
  ·simp
theorem p20:(128:Int) ^ (19 + 1) = 1393796574908163946345982392040522594123776:=by decide
end K03
namespace K06
open PySem PySem.Spec PyProof.Rows L2 K01
inductive Lb where
 | no | key (x:Str) | num (n:Int)
inductive IT where
 | whole (n:Int) | text (x:Str) | arm (n:Int) (e:IT) | lst (s:Nat) (ls:List Lb) (es:List IT)
def srt:Nat→Str
 | 0 => "row"
 | 1 => "map"
 | _ => "rec"
def prtD:Lb→D→D
 | .no,d => d
 | .key x,d => .tup [.str x,d]
 | .num n,d => .tup [.int n,d]
def Y1:List Lb→List D→List D
 | l :: ls,d :: ds => prtD l d :: Y1 ls ds
 | _,_ => []
mutual
def toD:IT→D
 | .whole n => .tup [.str "whole",.int n]
 | .text x => .tup [.str "text",.str x]
 | .arm n e => .tup [.str "arm",.int n,toD e]
 | .lst s ls es => .tup [.str (srt s),.tup (Y1 ls (toDs es))]
def toDs:List IT→List D
 | [] => []
 | e :: es => toD e :: toDs es
end
def Vo (x:Str):List Int:=x.cps.toList.map fun c:Nat => (c:Int)
def Lg (n:Int):List Int:=K03.Lf 19 n
def V8 (n:Int):Int:=if 0 ≤ n then 2 * n else -2 * n - 1
def sgB (x:Str):List Int:=Lg x.length ++ Vo x
def lbB:Lb→List Int
 | .no => []
 | .key x => sgB x
 | .num n => Lg n
mutual
def Zi:IT→List Int
 | .whole n => 0 :: Lg (V8 n)
 | .text x => 1 :: sgB x
 | .arm n e => 5 :: (Lg n ++ Zi e)
 | .lst s ls es => ((s:Int) + 2) :: (Lg (Zu ls es).length ++ Zu ls es)
def Zu:List Lb→List IT→List Int
 | l :: ls,e :: es => lbB l ++ Zi e ++ Zu ls es
 | _,_ => []
end
mutual
def Vx:IT→Nat
 | .whole _ => 1
 | .text _ => 1
 | .arm _ e => Vx e + 1
 | .lst _ _ es => dpIs es + 1
def dpIs:List IT→Nat
 | [] => 0
 | e :: es => max (Vx e) (dpIs es)
end
theorem dpI_mem:∀ {es:List IT} {e:IT},e ∈ es→Vx e ≤ dpIs es
 | a :: es,e,m => by
  rcases List.mem_cons.mp m with rfl | m
  ·simp only [dpIs]; omega
  ·have:=dpI_mem m
   simp only [dpIs]; omega
def GdL:Nat→List Lb→Prop
 | 0,ls => ∀ l ∈ ls,l = .no
 | 1,ls => ∃ ks:List Str,ls = ks.map Lb.key∧(∀ x ∈ ks,V6 x)∧adj ltS ks
 | _,ls => ∃ ks:List Int,ls = ks.map Lb.num∧(∀ n ∈ ks,1 ≤ n∧n ≤ 999)∧ks.Pairwise (· < ·)
mutual
def GdI:IT→Prop
 | .whole n => -1000000000000000000 ≤ n∧n ≤ 1000000000000000000
 | .text x => textOk x
 | .arm n e => 1 ≤ n∧n ≤ 999∧GdI e
 | .lst s ls es => s ≤ 2∧ls.length = es.length∧GdL s ls∧GdIs es
def GdIs:List IT→Prop
 | [] => True
 | e :: es => GdI e∧GdIs es
end
theorem V0:∀ {es:List IT},GdIs es ↔ ∀ e ∈ es,GdI e
 | [] => ⟨fun _ t m => (List.not_mem_nil m).elim,fun _ => trivial⟩
 | a :: ts => by
  constructor
  ·rintro ⟨h1,h2⟩ t m
   rcases List.mem_cons.mp m with rfl | m
   ·exact h1
   ·exact V0.mp h2 t m
  ·intro h
   exact ⟨h a List.mem_cons_self,V0.mpr fun t m => h t (List.mem_cons_of_mem _ m)⟩
theorem Y6:∀ es:List IT,toDs es = es.map toD
 | [] => rfl
 | d :: ds => by simp only [toDs,List.map_cons,Y6 ds]
theorem prtDs_len:∀ {ls:List Lb} {ds:List D},ls.length = ds.length→(Y1 ls ds).length = ds.length
 | [],[],_ => rfl
 | l :: ls,d :: ds,h => by simp only [Y1,List.length_cons,prtDs_len (Nat.succ.inj h)]
mutual
theorem Z7:∀ it:IT,noL (toD it) = true
 | .whole _ => rfl
 | .text _ => rfl
 | .arm n e => by simp only [toD,noL,noLs,Bool.true_and,Bool.and_true]; exact Z7 e
 | .lst s ls es => by
  simp only [toD,noL,noLs,Bool.true_and,Bool.and_true]
  exact Uy ls es
theorem Uy:∀ (ls:List Lb) (es:List IT),noLs (Y1 ls (toDs es)) = true
 | [],_ => by simp [Y1,noLs]
 | _ :: _,[] => by simp [toDs,Y1,noLs]
 | l :: ls,e :: es => by
  simp only [toDs,Y1,noLs,Bool.and_eq_true]
  refine ⟨?_,Uy ls es⟩
  cases l with
  | no => exact Z7 e
  | key x => simp only [prtD,noL,noLs,Bool.true_and,Bool.and_true]; exact Z7 e
  | num n => simp only [prtD,noL,noLs,Bool.true_and,Bool.and_true]; exact Z7 e
end
theorem isD2 {K:W.Frag} {H:Hp} {a b:D} {v:V} (h:Yv K H (.tup [a,b]) v):∃ p x y,v = .ref p∧Z9 K H p [x,y]∧Yv K H a x∧Yv K H b y:=by
 obtain ⟨p,vs,rfl,q,x,r,rfl,i1,y,r2,rfl,i2,e⟩:=h
 have e':r2 = []:=e
 subst e'
 exact ⟨p,x,y,rfl,q,i1,i2⟩
theorem isD3 {K:W.Frag} {H:Hp} {a b c:D} {v:V} (h:Yv K H (.tup [a,b,c]) v):∃ p x y z,v = .ref p∧Z9 K H p [x,y,z]∧Yv K H a x∧Yv K H b y∧Yv K H c z:=by
 obtain ⟨p,vs,rfl,q,x,r,rfl,i1,y,r2,rfl,i2,z,r3,rfl,i3,e⟩:=h
 have e':r3 = []:=e
 subst e'
 exact ⟨p,x,y,z,rfl,q,i1,i2,i3⟩
theorem Y8 (n:Int):(Lg n).length ≤ 20:=K03.Lf_len 19 n
theorem lt20 {n:Int} (h:n ≤ 10000000000000000000):n < 128 ^ (19 + 1):=by rw [K03.p20]; omega
theorem fold_nn (n:Int):0 ≤ V8 n:=by unfold V8; split <;> omega
theorem fold_le {n:Int} (h1:-1000000000000000000 ≤ n) (h2:n ≤ 1000000000000000000):V8 n ≤ 2000000000000000000:=by unfold V8; split <;> omega
theorem itm_list {k:Nat} {P:IT→Prop}:∀ {es:List D},(∀ e ∈ es,∃ it,toD it = e∧P it)→∃ its:List IT,its.map toD = es∧∀ i ∈ its,P i
 | [],_ => ⟨[],rfl,fun _ m => (List.not_mem_nil m).elim⟩
 | e :: es,h => by
  obtain ⟨i,e1,p1⟩:=h e List.mem_cons_self
  obtain ⟨is,e2,p2⟩:=itm_list (k:=k) (P:=P) (es:=es) fun x m => h x (List.mem_cons_of_mem _ m)
  refine ⟨i :: is,by simp [e1,e2],fun x m => ?_⟩
  rcases List.mem_cons.mp m with rfl | m
  ·exact p1
  ·exact p2 x m
def lnB:Nat→Nat
 | 0 => 0
 | k + 1 => 300 + 3 * lnB k
theorem prt_no:∀ (n:Nat) (ds:List D),ds.length = n→Y1 (List.replicate n Lb.no) ds = ds
 | 0,[],_ => rfl
 | n + 1,d :: ds,h => by simp only [List.replicate_succ,Y1,prtD,prt_no n ds (Nat.succ.inj h)]
theorem prt_key:∀ (ks:List Str) (ds:List D),Y1 (ks.map Lb.key) ds = Yn (ks.map D.str) ds
 | [],_ => by simp [Y1,Yn]
 | k :: ks,[] => by simp [Y1,Yn]
 | k :: ks,d :: ds => by simp only [List.map_cons,Y1,prtD,Yn,prt_key ks ds]
theorem prt_num:∀ (ks:List Int) (ds:List D),Y1 (ks.map Lb.num) ds = Yn (ks.map D.int) ds
 | [],_ => by simp [Y1,Yn]
 | k :: ks,[] => by simp [Y1,Yn]
 | k :: ks,d :: ds => by simp only [List.map_cons,Y1,prtD,Yn,prt_num ks ds]
theorem Y0 (x:Str):(Vo x).length = x.length:=by unfold Vo; rw [List.length_map]; exact Array.length_toList
theorem sgB_len (x:Str):(sgB x).length ≤ 20 + x.length:=by
 unfold sgB; rw [List.length_append,Y0]; have:=Y8 x.length; omega
def lbOk:Lb→Prop
 | .no => True
 | .key x => x.length ≤ 8
 | .num _ => True
theorem lbB_len {l:Lb} (h:lbOk l):(lbB l).length ≤ 28:=by
 cases l with
 | no => exact Nat.zero_le _
 | key x => have:=sgB_len x; have h':x.length ≤ 8:=h; show (sgB x).length ≤ 28; omega
 | num n => have:=Y8 n; show (Lg n).length ≤ 28; omega
theorem byIs_len {n:Nat}:∀ {ls:List Lb} {es:List IT},(∀ l ∈ ls,lbOk l)→(∀ e ∈ es,(Zi e).length ≤ n)→(Zu ls es).length ≤ es.length * (28 + n)
 | [],es,_,_ => by simp [Zu]
 | _ :: _,[],_,_ => by simp [Zu]
 | l :: ls,e :: es,h1,h2 => by
  have a:=lbB_len (h1 l List.mem_cons_self)
  have b:=h2 e List.mem_cons_self
  have c:=byIs_len (ls:=ls) (es:=es) (fun x m => h1 x (List.mem_cons_of_mem _ m)) fun x m => h2 x (List.mem_cons_of_mem _ m)
  simp only [Zu,List.length_append,List.length_cons,Nat.succ_mul]; omega
theorem dpIs_le:∀ {es:List IT} {n:Nat},(∀ t ∈ es,Vx t ≤ n)→dpIs es ≤ n
 | [],n,_ => Nat.zero_le _
 | t :: ts,n,h => by
  have h1:=h t List.mem_cons_self
  have h2:=dpIs_le (es:=ts) fun x m => h x (List.mem_cons_of_mem _ m)
  simp only [dpIs]; omega
structure NiceI (it:IT) (k:Nat):Prop where
 gd:GdI it
 dp:Vx it ≤ k
 ln:(Zi it).length ≤ lnB k
theorem lst_nice {k:Nat} {s:Nat} {ls:List Lb} {es:List IT} (hs:s ≤ 2) (hl:ls.length = es.length) (h3:es.length ≤ 3) (g:GdL s ls) (lo:∀ l ∈ ls,lbOk l) (h:∀ e ∈ es,NiceI e k):NiceI (.lst s ls es) (k + 1):=by
 refine ⟨⟨hs,hl,g,V0.mpr fun e m => (h e m).gd⟩, ?_, ?_⟩
 ·have:=dpIs_le (es:=es) fun e m => (h e m).dp
  simp only [Vx]; omega
 ·have a:=byIs_len (n:=lnB k) lo fun e m => (h e m).ln
  have b:es.length * (28 + lnB k) ≤ 3 * (28 + lnB k):=Nat.mul_le_mul_right _ h3
  have c:=Y8 (Zu ls es).length
  simp only [Zi,List.length_cons,List.length_append,lnB]; omega
theorem itm_it:∀ (k:Nat) (d:D),Itm Gd k d→∃ it,toD it = d∧NiceI it k
 | 0,_,h => h.elim
 | k + 1,d,h => by
  rcases h with ⟨n,rfl,g⟩ | ⟨x,rfl,g⟩ | ⟨n,e,rfl,g,i⟩ | ⟨es,rfl,l,i⟩ | ⟨ks,es,rfl,l1,l2,g,i⟩ | ⟨ks,es,rfl,l1,l2,g,i⟩
  ·refine ⟨.whole n,rfl,g,by simp only [Vx]; omega, ?_⟩
   have:=Y8 (V8 n)
   simp only [Zi,List.length_cons,lnB]; omega
  ·refine ⟨.text x,rfl,g,by simp only [Vx]; omega, ?_⟩
   have:=sgB_len x
   have:=g.1
   simp only [Zi,List.length_cons,lnB]; omega
  ·obtain ⟨it,e1,ni⟩:=itm_it k e i
   refine ⟨.arm n it,by simp only [toD,e1],⟨g.1,g.2,ni.gd⟩,by have:=ni.dp; simp only [Vx]; omega, ?_⟩
   have:=Y8 n
   have:=ni.ln
   simp only [Zi,List.length_cons,List.length_append,lnB]; omega
  ·obtain ⟨its,e1,ni⟩:=itm_list (k:=k) (P:=fun it => NiceI it k) fun e m => itm_it k e (i e m)
   have el:its.length = es.length:=by rw [← e1,List.length_map]
   refine ⟨.lst 0 (List.replicate es.length .no) its, ?_,lst_nice (by decide) (by rw [List.length_replicate,el]) (by omega) (fun l m => List.eq_of_mem_replicate m) (fun l m => by rw [List.eq_of_mem_replicate m]; trivial) ni⟩
   simp only [toD,srt]
   rw [Y6,e1,prt_no _ _ rfl]
  ·obtain ⟨its,e1,ni⟩:=itm_list (k:=k) (P:=fun it => NiceI it k) fun e m => itm_it k e (i e m)
   have el:its.length = es.length:=by rw [← e1,List.length_map]
   refine ⟨.lst 1 (ks.map Lb.key) its, ?_,lst_nice (by decide) (by rw [List.length_map,el]; exact l1) (by omega) ⟨ks,rfl,g.1,g.2⟩ (fun l m => ?_) ni⟩
   ·simp only [toD,srt]
    rw [Y6,e1,prt_key]
   ·obtain ⟨x,mx,rfl⟩:=List.mem_map.mp m
    exact (g.1 x mx).2.1
  ·obtain ⟨its,e1,ni⟩:=itm_list (k:=k) (P:=fun it => NiceI it k) fun e m => itm_it k e (i e m)
   have el:its.length = es.length:=by rw [← e1,List.length_map]
   refine ⟨.lst 2 (ks.map Lb.num) its, ?_,lst_nice (by decide) (by rw [List.length_map,el]; exact l1) (by omega) ⟨ks,rfl,g.1,g.2⟩ (fun l m => ?_) ni⟩
   ·simp only [toD,srt]
    rw [Y6,e1,prt_num]
   ·obtain ⟨x,mx,rfl⟩:=List.mem_map.mp m
    trivial
end K06
namespace K06
open PySem PySem.Spec PyProof.Rows L2 K01 K03
abbrev s_long_of:Stmt:=top 5
abbrev N_long_of:List Str:=["n","figures"]
theorem sc_long_of:Zs N_long_of ["n"] (Zk s_long_of):=by trivial
abbrev s_packed:Stmt:=top 19
abbrev N_packed:List Str:=["item","backwards"]
theorem sc_packed:Zs N_packed ["item"] (Zk s_packed):=by trivial
abbrev s_pack_item:Stmt:=top 20
abbrev N_pack_item:List Str:=["backwards","item","sort","behind","part"]
theorem sc_pack_item:Zs N_pack_item ["backwards","item"] (Zk s_pack_item):=by trivial
abbrev s_pack_label:Stmt:=top 21
abbrev N_pack_label:List Str:=["backwards","sort","part"]
theorem sc_pack_label:Zs N_pack_label ["backwards","sort","part"] (Zk s_pack_label):=by trivial
abbrev s_pack_signs:Stmt:=top 22
abbrev N_pack_signs:List Str:=["backwards","text"]
theorem sc_pack_signs:Zs N_pack_signs ["backwards","text"] (Zk s_pack_signs):=by trivial
abbrev s_pack_bytes:Stmt:=top 23
abbrev N_pack_bytes:List Str:=["backwards","codes"]
theorem sc_pack_bytes:Zs N_pack_bytes ["backwards","codes"] (Zk s_pack_bytes):=by trivial
abbrev s_folded:Stmt:=top 24
abbrev N_folded:List Str:=["n"]
theorem sc_folded:Zs N_folded ["n"] (Zk s_folded):=by trivial
abbrev s_law_long:Stmt:=top 56
abbrev N_law_long:List Str:=["_law_n","_law_found"]
theorem sc_law_long:Zs N_law_long ["_law_n"] (Zk s_law_long):=by trivial
def small {n:Nat} (h:n ≤ 1000):n ≤ sizeLine:=Nat.le_of_lt (Vv h)
def spLong:Sp:=fun vs H Q _ => ∃ n:Int,vs = [.int n]∧0 ≤ n∧n < 128 ^ (19 + 1)∧∀ (r:Addr) (H':Hp),Zb H H'→H' r = some (.tup ((Lf 19 n).map V.int))→Q (.ref r) H'
def m0:L2.St→Nat
 | some (.int m) :: _ => m.toNat
 | _ => 0
structure Bk (b:Addr) (H H':Hp) (zs:List V):Prop where
 keep:∀ x o,x ≠ b→H x = some o→H' x = some o
 at':H' b = some (.lst zs)
theorem Bk.same {b:Addr} {H H1 H2:Hp} {zs:List V} (s:Zb H H1) (k:Bk b H1 H2 zs):Bk b H H2 zs:=⟨fun x o n h => k.keep x o n (s _ _ h),k.at'⟩
theorem Bk.then {b:Addr} {H H1 H2:Hp} {zs:List V} (k:Bk b H H1 zs) (s:Zb H1 H2):Bk b H H2 zs:=⟨fun x o n h => s _ _ (k.keep x o n h),s _ _ k.at'⟩
theorem Bk.trans {b:Addr} {H H1 H2:Hp} {ys zs:List V} (k:Bk b H H1 ys) (j:Bk b H1 H2 zs):Bk b H H2 zs:=⟨fun x o n h => j.keep x o n (k.keep x o n h),j.at'⟩
theorem Bk.up {K:W.Frag} {b:Addr} {H H':Hp} {ys zs:List V} (k:Bk b H H' zs) (h:H b = some (.lst ys)):Up K H H':=fun c xs q => by
 have ne:∀ u,H c = some u→(∀ ys,u ≠ .lst ys)→c ≠ b:=fun u e n z => by
  rw [z,h] at e
  cases e
  exact n _ rfl
 rcases q with (q | ⟨u,q⟩) | q
 ·exact .inl (.inl (k.keep _ _ (ne _ q fun _ z => nomatch z) q))
 ·exact .inl (.inr ⟨u,k.keep _ _ (ne _ q fun _ z => nomatch z) q⟩)
 ·exact .inr q
def bv (l:List Int):List V:=l.map V.int
theorem bv_app (a b:List Int):bv (a ++ b) = bv a ++ bv b:=List.map_append
theorem Yj (a:List Int):(bv a).length = a.length:=List.length_map _
def spBytes (K:W.Frag):Sp:=fun vs H Q _ => ∃ b c ys zs,vs = [.ref b,.ref c]∧H b = some (.lst ys)∧(Z9 K H c zs ∨ Ym K H c zs)∧ys.length + zs.length ≤ 10000000∧∀ H',Bk b H H' (ys ++ zs.reverse)→Q .non H'
def spSigns:Sp:=fun vs H Q _ => ∃ b x ys,vs = [.ref b,.str x]∧H b = some (.lst ys)∧x.length ≤ 1000∧ys.length ≤ 5000000∧∀ H',Bk b H H' (ys ++ (bv (sgB x)).reverse)→Q .non H'
def LbS (s:Nat) (l:Lb):Prop:=(s = 0∧l = .no) ∨ (s = 1∧∃ x,l = .key x∧V6 x) ∨ (s = 2∧∃ n,l = .num n∧1 ≤ n∧n ≤ 999)
def spLabel (K:W.Frag):Sp:=fun vs H Q _ => ∃ b s l v e ys,vs = [.ref b,.str (srt s),v]∧LbS s l∧Yv K H (prtD l e) v∧H b = some (.lst ys)∧ys.length ≤ 5000000∧∀ H',Bk b H H' (ys ++ (bv (lbB l)).reverse)→Q .non H'
def spFold:Sp:=fun vs H Q _ => ∃ n:Int,vs = [.int n]∧Q (.int (V8 n)) H
def spPack (K:W.Frag):Nat→Sp
 | 0 => fun _ _ _ _ => False
 | n + 1 => fun vs H Q _ => ∃ b v it ys,vs = [.ref b,v]∧Yv K H (toD it) v∧GdI it∧Vx it ≤ n + 1∧(Zi it).length ≤ 1000000∧ys.length + (Zi it).length ≤ 2000000∧H b = some (.lst ys)∧∀ H',Bk b H H' (ys ++ (bv (Zi it)).reverse)→Q .non H'
structure Ub (K:W.Frag) (a:Addr):Prop where
 at':∃ (o:Obj) (its:Array Value) (n:Nat),K.lookup a = some o∧o.cls = .type "tuple" ∧ o.dict = none∧o.data = .seq its n∧its.size ≤ sizeLine∧Z2 ((["whole","text","row","map","rec","arm"]:List Str).map V.str) its.toList
theorem Ub.sq {K:W.Frag} {a:Addr} (s:Ub K a) (H:Hp):Z9 K H a ((["whole","text","row","map","rec","arm"]:List Str).map V.str):=by
 obtain ⟨o,its,n,h1,h2,h3,h4,h5,h6⟩:=s.at'
 exact .inr ⟨o,its,n,h1,h2,h4,h5,h6⟩
theorem Ub.ty {K:W.Frag} {a:Addr} (s:Ub K a) (H:Hp):tyV K "tuple" (.ref a) H:=by
 obtain ⟨o,its,n,h1,h2,h3,h4,h5,h6⟩:=s.at'
 exact .inr (.inl ⟨rfl,o,h1,h2,h3⟩)
section
variable {P:Program} {w:World} {K:W.Frag} {mg:Str→Option Value} {base:Heap} {f:Addr} {fd:FuncData}
theorem ok_long (F:Uj K "long_of" "long_of" s_long_of f fd) (m:Bn mg):Yy P w K mg base Um 1 f fd ["n"] spLong:=by
 refine F.ok sc_long_of (fun vs H Q E h => ?_) (fun cdv A outer s H vs Q E hr h => ?_)
 ·obtain ⟨n,rfl,_⟩:=h
  rfl
 obtain ⟨n,rfl,h0,h1,q⟩:=h
 refine ⟨_,(@Zj _ _ _ _ _ (@Zy _ 1 _ _ _ _ _ sc_long_of.nd rfl (by trivial) (@Y2 _ _ _ _ Zz) rfl (by trivial)) (@Zj _ _ _ _ _ (@ps_while _ _ _ _ _ _ PassesOwn.never (@Zm _ _ _ _ _ _ _ _ op_ge (pv 0) Zx (Zt _)) (@Zj _ _ _ _ _ (@Yw _ _ _ _ (@pe_bm _ _ _ _ _ _ _ _ _ _ _ _ PySem.F.plainAttrs_list PySem.F.slot_list_append PySem.F.type_list_append Uq (pv 1) (Zg (@Zf _ _ _ _ _ _ _ _ Z1 (@Zf _ _ _ _ _ _ _ _ Vu (pv 0) Zx) Zx) Zz rfl) (by trivial) (by trivial) (by trivial) (by trivial) (by trivial)) rfl) (@Zv _ _ _ (@Zy _ 0 _ _ _ _ _ sc_long_of.nd rfl (by trivial) (@Zf _ _ _ _ _ _ _ _ op_fdiv (pv 0) Zx) rfl (by trivial))))) (@Zj _ _ _ _ _ (@Yw _ _ _ _ (@pe_bm _ _ _ _ _ _ _ _ _ _ _ _ PySem.F.plainAttrs_list PySem.F.slot_list_append PySem.F.type_list_append Uq (pv 1) (Zg (pv 0) Zz rfl) (by trivial) (by trivial) (by trivial) (by trivial) (by trivial)) rfl) (@Zv _ _ _ (@Zd _ _ _ _ (@Yt _ _ _ _ _ _ _ _ _ Yc rfl m.tuple b_tuple (Zg (pv 1) Zz rfl) (by trivial) (by trivial) (by trivial) (by trivial))))))), ?_⟩
 refine ⟨(sz 0),fun p hp => ?_⟩
 refine while_by (fun σ H1 => ∃ (m:Int) (k:Nat) (fs:List Int),σ = [some (.int m),some (.ref p)]∧H1 = Z4 H p (.lst (fs.map V.int))∧0 ≤ m∧m < 128 ^ (k + 1)∧k + fs.length = 19∧fs ++ Lf k m = Lf 19 n)
  (fun σ _ => m0 σ) ⟨n,19,[],rfl,rfl,h0,h1,rfl,rfl⟩ ?_ ?_
 ·rintro σ H1 ⟨m,k,fs,rfl,rfl,hm,hk,hl,e⟩
  have hz:(fs.map V.int).length < sizeLine:=by rw [List.length_map]; exact Vv (by omega)
  refine ⟨_,rfl,_,_,rfl,rfl,_,rfl, ?_⟩
  refine ite2 (fun c => ?_) (fun c => ?_)
  ·have c':128 ≤ m:=of_decide_eq_true c
   obtain ⟨j,rfl⟩:=more c' hk
   refine ⟨_,rfl,.inl ⟨rfl,_,Ym.of Zq⟩,_,rfl,_,_,rfl,rfl,(by show (0:Int) < 128; decide),_,_,rfl,rfl,p,_,_,rfl,rfl,Zq,hz, ?_⟩
   refine ⟨_,rfl,_,_,rfl,rfl,⟨by decide,by decide⟩, ?_⟩
   refine ⟨⟨m / 128,j,fs ++ [m % 128 + 128],rfl, ?_,by omega,div_lt hk, ?_, ?_⟩, ?_⟩
   ·rw [upd_upd,List.map_append]
    rfl
   ·rw [List.length_append,List.length_singleton]; omega
   ·rw [← e,Lf_big j c',List.append_assoc]
    rfl
   ·show (m / 128).toNat < m.toNat
    omega
  ·have c':m < 128:=by
    have:=of_decide_eq_false (Bool.eq_false_iff.mpr c)
    omega
   refine ⟨_,rfl,.inl ⟨rfl,_,Ym.of Zq⟩,_,rfl,p,_,_,rfl,rfl,Zq,hz, ?_⟩
   refine ⟨_,rfl,p,_,rfl,.inl ⟨Ym.of Zq,fun l hl' => ?_⟩⟩
   have s1:Zb H (Z4 (Z4 H p (.lst (fs.map V.int))) p (.lst (fs.map V.int ++ [V.int m]))):=((Zb.refl H).put hp).put hp
   refine q l _ (s1.put (s1.free hl')) ?_
   rw [Zq, ← e,Ve k c',List.map_append]
   rfl
 ·rintro σ H1 Q1 Q2 hq ⟨v,e,i,j,e1,e2,b,eb,q1⟩
  exact ⟨v,e,i,j,e1,e2,b,eb,hq _ _ q1⟩
theorem ok_llong (F:Uj K "_law_long" "_law_long" s_law_long f fd) (m:Bn mg):Yy P w K mg base Um 1 f fd ["_law_n"] spLong:=by
 refine F.ok sc_law_long (fun vs H Q E h => ?_) (fun cdv A outer s H vs Q E hr h => ?_)
 ·obtain ⟨n,rfl,_⟩:=h
  rfl
 obtain ⟨n,rfl,h0,h1,q⟩:=h
 refine ⟨_,(@Zj _ _ _ _ _ (@Zy _ 1 _ _ _ _ _ sc_law_long.nd rfl (by trivial) (@Y2 _ _ _ _ (Zg (@Zf _ _ _ _ _ _ _ _ Vu (pv 0) Zx) Zz rfl)) rfl (by trivial)) (@Zj _ _ _ _ _ (@ps_while _ _ _ _ _ _ PassesOwn.never (@Zm _ _ _ _ _ _ _ _ op_gt (pv 0) Zx (Zt _)) (@Zj _ _ _ _ _ (@ps_asg _ _ _ _ _ _ (@Zf _ _ _ _ _ _ _ _ Z1 (@Zr _ _ _ _ _ _ _ Yo (pv 1) (@pe_un _ _ _ _ _ _ un_neg Zx) (fun _ _ => rfl)) Zx) (@pg_sub _ _ _ _ _ _ _ (pv 1) (@pe_un _ _ _ _ _ _ un_neg Zx) set_list (by trivial)) (by trivial) (by trivial) (by trivial)) (@Zj _ _ _ _ _ (@Zy _ 0 _ _ _ _ _ sc_law_long.nd rfl (by trivial) (@Zf _ _ _ _ _ _ _ _ op_fdiv (pv 0) Zx) rfl (by trivial)) (@Zv _ _ _ (@Yw _ _ _ _ (@pe_bm _ _ _ _ _ _ _ _ _ _ _ _ PySem.F.plainAttrs_list PySem.F.slot_list_append PySem.F.type_list_append Uq (pv 1) (Zg (@Zf _ _ _ _ _ _ _ _ Vu (pv 0) Zx) Zz rfl) (by trivial) (by trivial) (by trivial) (by trivial) (by trivial)) rfl))))) (@Zv _ _ _ (@Zd _ _ _ _ (@Yt _ _ _ _ _ _ _ _ _ Yc rfl m.tuple b_tuple (Zg (pv 1) Zz rfl) (by trivial) (by trivial) (by trivial) (by trivial)))))), ?_⟩
 refine ⟨_,rfl,_,_,rfl,rfl,(by show (0:Int) < 128; decide),(sz 1),fun p hp => ?_⟩
 refine while_by (fun σ H1 => ∃ (m:Int) (k:Nat) (fs:List Int),σ = [some (.int m),some (.ref p)]∧H1 = Z4 H p (.lst ((fs ++ [m % 128]).map V.int))∧0 ≤ m∧m < 128 ^ (k + 1)∧k + fs.length = 19∧fs ++ Lf k m = Lf 19 n)
  (fun σ _ => m0 σ) ⟨n,19,[],rfl,rfl,h0,h1,rfl,rfl⟩ ?_ ?_
 ·rintro σ H1 ⟨m,k,fs,rfl,rfl,hm,hk,hl,e⟩
  refine ⟨_,rfl,_,_,rfl,rfl,_,rfl, ?_⟩
  refine ite2 (fun c => ?_) (fun c => ?_)
  ·have c':128 ≤ m:=by
    have:(127:Int) < m:=of_decide_eq_true c
    omega
   obtain ⟨j,rfl⟩:=more c' hk
   have last:atI ((fs ++ [m % 128]).map V.int) (-1) = some (.int (m % 128)):=by
    rw [List.map_append]
    exact atI_last _ _
   have lix:ixN ((fs ++ [m % 128]).map V.int).length (-1) = some fs.length:=by
    rw [List.length_map,List.length_append,List.length_singleton]
    unfold ixN
    rw [if_neg (by decide),if_pos (by omega)]
    congr 1
    omega
   refine ⟨_,rfl,_,rfl,p,_,_,_,rfl,rfl,Ym.of Zq,last,_,_,rfl,rfl,_,rfl,_,rfl,p,_,_,_,rfl,rfl,Zq,lix, ?_⟩
   refine ⟨_,rfl,_,_,rfl,rfl,⟨by decide,by decide⟩, ?_⟩
   refine ⟨_,rfl,.inl ⟨rfl,_,Ym.of Zq⟩,_,rfl,_,_,rfl,rfl,(by show (0:Int) < 128; decide),p,_,_,rfl,rfl,Zq, ?_, ?_⟩
   ·rw [List.length_set,List.length_map,List.length_append,List.length_singleton]; exact Vv (by omega)
   ·have e9:(((fs ++ [m % 128]).map V.int).set fs.length (V.int (m % 128 + 128))) = (fs ++ [m % 128 + 128]).map V.int:=by
     rw [List.map_append,List.map_append]
     have q9:=List.set_append_right (s:=fs.map V.int) (t:=[V.int (m % 128)]) (i:=fs.length) (x:=V.int (m % 128 + 128)) (by rw [List.length_map]; exact Nat.le_refl _)
     rw [List.length_map,Nat.sub_self] at q9
     exact q9
    refine ⟨⟨m / 128,j,fs ++ [m % 128 + 128],rfl, ?_,by omega,div_lt hk, ?_, ?_⟩, ?_⟩
    ·rw [upd_upd,upd_upd,e9,List.map_append (l₁:=fs ++ [m % 128 + 128])]
     rfl
    ·rw [List.length_append,List.length_singleton]; omega
    ·rw [← e,Lf_big j c',List.append_assoc]
     rfl
    ·show (m / 128).toNat < m.toNat
     omega
  ·have c':m < 128:=by
    have:¬ (127:Int) < m:=of_decide_eq_false (Bool.eq_false_iff.mpr c)
    omega
   refine ⟨_,rfl,p,_,rfl,.inl ⟨Ym.of Zq,fun l hl' => ?_⟩⟩
   have s1:Zb H (Z4 H p (.lst ((fs ++ [m % 128]).map V.int))):=(Zb.refl H).put hp
   refine q l _ (s1.put (s1.free hl')) ?_
   have e8:m % 128 = m:=by omega
   rw [Zq, ← e,Ve k c',e8]
 ·rintro σ H1 Q1 Q2 hq ⟨v,e,i,j,e1,e2,b,eb,q1⟩
  exact ⟨v,e,i,j,e1,e2,b,eb,hq _ _ q1⟩
theorem ok_pack_bytes (F:Uj K "pack_bytes" "pack_bytes" s_pack_bytes f fd) (m:Bn mg):Yy P w K mg base Um 1 f fd ["backwards","codes"] (spBytes K):=by
 refine F.ok sc_pack_bytes (fun vs H Q E h => ?_) (fun cdv A outer s H vs Q E hr h => ?_)
 ·obtain ⟨b,c,ys,zs,rfl,_⟩:=h
  rfl
 obtain ⟨b,c,ys,zs,rfl,hb,hc,hl,q⟩:=h
 refine ⟨_,(@Zv _ _ _ (@Yw _ _ _ _ (@pe_bm _ _ _ _ _ _ _ _ _ _ _ _ PySem.F.plainAttrs_list PySem.F.slot_list_extend PySem.F.type_list_extend mt_extend (pv 0) (Zg (@pe_listRev _ _ _ _ _ _ _ rfl rfl m.list rfl m.reversed (Zg (pv 1) Zz rfl) rfl rfl rfl) Zz rfl) (by trivial) (by trivial) (by trivial) (by trivial) (by trivial)) rfl)), ?_⟩
 refine ⟨_,rfl,.inl ⟨rfl,_,Ym.of hb⟩, ?_⟩
 have go:∀ p,H p = none→rExtend (.ref b) [.ref p] (Z4 H p (.lst zs.reverse)) (fun v H' => Q .non H'):=fun p hp => by
  have hb1:Z4 H p (.lst zs.reverse) b = some (.lst ys):=(Zb.lay hp) _ _ hb
  refine ⟨b,p,ys,zs.reverse,rfl,rfl,hb1,Zq,by rw [List.length_reverse]; exact Nat.le_trans hl (by decide),q _ ⟨fun x o n h => ?_,Zq⟩⟩
  rw [Zh n]
  exact (Zb.lay hp) _ _ h
 rcases hc with hc | hc
 ·exact .inl ⟨_,rfl,c,zs,rfl,hc,go⟩
 ·exact .inr ⟨_,rfl,c,zs,rfl,hc,go⟩
theorem ord_comp {H:Hp} {x:Str} {D:Addr} {fin:Hp→Prop} {o:Option V} (hl:x.cps.size ≤ 1000000) (hD:H D = none) (hf:∀ H6,Zb H H6→H6 D = some (.lst (bv (Vo x)))→fin H6) :
  ∃ W:Nat→Nat→List V→L2.St→Hp→Prop,(∃ m,W 0 m [] [o] (Z4 H D (.lst [])))∧CompW (Its x) (gName 0) tAlways (tCB (fun xs H Q => ∃ x,xs = [.str x]∧x.length = 1∧Q (.int (x.cps.getD 0 0:Nat)) H) (Vd (tVar 0) tNil)) D W fin:=by
 refine comp_str (x:=x) (fun i ys σ H5 => (∃ o',σ = [o'])∧ys = bv ((Vo x).take i)∧Zb H H5∧H5 D = some (.lst ys)) ⟨⟨_,rfl⟩,rfl,(Zb.refl H).put hD,Zq⟩ ?_ ?_ ?_
 ·rintro i ys σ H5 hi ⟨_,_,s5,h5⟩
  exact h5
 ·rintro i c ys σ H5 hx ⟨⟨o',rfl⟩,rfl,s5,h5⟩
  have et:(Vo x)[i]? = some (c:Int):=by
   unfold Vo
   rw [List.getElem?_map]
   have:x.cps.toList[i]? = some c:=by simpa using hx
   rw [this]; rfl
  refine goAlways ⟨_,rfl,⟨#[c]⟩,rfl,rfl,h5, ?_,⟨_,rfl⟩, ?_,s5.put hD,Zq⟩
  ·rw [Yj,List.length_take,Y0]; exact Nat.lt_of_le_of_lt (Nat.le_trans (Nat.min_le_right _ _) hl) (by decide)
  ·rw [take_more et,bv_app]; rfl
 ·rintro ys σ H5 ⟨_,rfl,s5,h5⟩
  refine hf H5 s5 ?_
  rw [h5,List.take_of_length_le]
  rw [Y0]; exact Nat.le_refl _
theorem ok_pack_signs (F:Uj K "pack_signs" "pack_signs" s_pack_signs f fd) (m:Bn mg) (g_pack_bytes:Fn P w K mg base 1 "pack_bytes" ["backwards","codes"] (spBytes K)) (g_long_of:Fn P w K mg base 1 "long_of" ["n"] spLong):Yy P w K mg base Um 2 f fd ["backwards","text"] spSigns:=by
 refine F.ok sc_pack_signs (fun vs H Q E h => ?_) (fun cdv A outer s H vs Q E hr h => ?_)
 ·obtain ⟨b,x,ys,rfl,_⟩:=h
  rfl
 obtain ⟨b,x,ys,rfl,hb,hx,hl,q⟩:=h
 refine ⟨_,(@Zj _ _ _ _ _ (@Yw _ _ _ _ (@Zw _ _ _ _ _ _ _ _ _ _ g_pack_bytes hr.m rfl (Zg (pv 0) (Zg (@Vw _ N_pack_signs (Zk s_pack_signs) ["sign"] [none] _ _ _ _ _ _ _ _ _ _ rfl (@pi_str _ _ _ _ (pv 1)) ⟨rfl,rfl,by decide +kernel,by decide +kernel⟩ (fun _ _ _ => (@Z0 _ 0 _ _ (show List.Nodup (["sign"]:List Str) from by decide +kernel) rfl (Or.inl rfl) (by trivial))) (fun _ _ _ => Vf) (fun _ _ _ => (@Z5 _ _ _ _ _ _ _ _ _ call_ord rfl m.ord b_ord (Zg (pv 0) Zz rfl) (by decide) (by decide) rfl rfl)) (by trivial)) Zz rfl) rfl) (by decide) rfl rfl) rfl) (@Zv _ _ _ (@Yw _ _ _ _ (@Zw _ _ _ _ _ _ _ _ _ _ g_pack_bytes hr.m rfl (Zg (pv 0) (Zg (@Zw _ _ _ _ _ _ _ _ _ _ g_long_of hr.m rfl (Zg (@Z5 _ _ _ _ _ _ _ _ _ call_len_str rfl m.len b_len (Zg (pv 1) Zz rfl) (by decide) (by decide) rfl rfl) Zz rfl) (by decide) rfl rfl) Zz rfl) rfl) (by decide) rfl rfl) rfl))), ?_⟩
 have lc:=Y0 x
 have ll:=Y8 x.length
 refine ⟨_,rfl,_,rfl,x,rfl,fun D fp sx hD => ord_comp (Nat.le_trans hx (by decide)) hD fun H1 s1 h1 => ?_⟩
 refine ⟨b,D,ys,bv (Vo x),rfl,s1 _ _ hb,.inr (Ym.of h1),by rw [Yj]; omega,fun H2 k2 => ?_⟩
 refine ⟨_,rfl,_,rfl,x,rfl,Nat.le_trans hx (by decide),_,rfl,by omega,lt20 (by omega),fun r H3 s3 h3 => ?_⟩
 refine ⟨b,r,_,bv (Lg x.length),rfl,s3 _ _ k2.at',.inl (Z9.of h3),by rw [List.length_append,List.length_reverse,Yj,Yj]; omega,fun H4 k4 => q H4 ?_⟩
 have k:=(k2.same s1).trans (k4.same s3)
 rw [show ys ++ (bv (sgB x)).reverse = ys ++ (bv (Vo x)).reverse ++ (bv (Lg x.length)).reverse by unfold sgB; rw [bv_app,List.reverse_append,List.append_assoc]]
 exact k
theorem ok_pack_label (F:Uj K "pack_label" "pack_label" s_pack_label f fd) (g_pack_bytes:Fn P w K mg base 1 "pack_bytes" ["backwards","codes"] (spBytes K)) (g_long_of:Fn P w K mg base 1 "long_of" ["n"] spLong) (g_pack_signs:Fn P w K mg base 2 "pack_signs" ["backwards","text"] spSigns) :
  Yy P w K mg base Um 3 f fd ["backwards","sort","part"] (spLabel K):=by
 refine F.ok sc_pack_label (fun vs H Q E h => ?_) (fun cdv A outer s H vs Q E hr h => ?_)
 ·obtain ⟨b,s,l,v,e,ys,rfl,_⟩:=h
  rfl
 obtain ⟨b,s',l,v,e,ys,rfl,hs,hd,hb,hl,q⟩:=h
 refine ⟨_,(@Zv _ _ _ (@Z8 _ _ _ _ _ _ _ _ (@Zm _ _ _ _ _ _ _ _ Yf (pv 1) Zc (Zt _)) (@Zv _ _ _ (@Yw _ _ _ _ (@Zw _ _ _ _ _ _ _ _ _ _ g_pack_signs hr.m rfl (Zg (pv 0) (Zg (@Zr _ _ _ _ _ _ _ Zp (pv 2) Zx (fun _ _ => rfl)) Zz rfl) rfl) (by decide) rfl rfl) rfl)) (@Zv _ _ _ (@Z8 _ _ _ _ _ _ _ _ (@Zm _ _ _ _ _ _ _ _ Yf (pv 1) Zc (Zt _)) (@Zv _ _ _ (@Yw _ _ _ _ (@Zw _ _ _ _ _ _ _ _ _ _ g_pack_bytes hr.m rfl (Zg (pv 0) (Zg (@Zw _ _ _ _ _ _ _ _ _ _ g_long_of hr.m rfl (Zg (@Zr _ _ _ _ _ _ _ Zp (pv 2) Zx (fun _ _ => rfl)) Zz rfl) (by decide) rfl rfl) Zz rfl) rfl) (by decide) rfl rfl) rfl)) Za)))), ?_⟩
 refine ⟨_,rfl,rfl,_,rfl, ?_⟩
 rcases hs with ⟨rfl,rfl⟩ | ⟨rfl,x,rfl,nx⟩ | ⟨rfl,n,rfl,n0,n1⟩
 ·refine Yq (by decide +kernel) ⟨_,rfl,rfl,_,rfl,Yq (by decide +kernel) (q H ⟨fun _ _ _ h => h, ?_⟩)⟩
  show H b = some (.lst (ys ++ []))
  rw [List.append_nil]; exact hb
 ·obtain ⟨p,vx,vy,rfl,hp,rfl,_⟩:=isD2 hd
  exact Yp (by decide +kernel) ⟨_,rfl,_,rfl,p,_,_,_,rfl,rfl,hp,rfl,b,x,ys,rfl,hb,by have:=nx.2.1; omega,hl,q⟩
 ·obtain ⟨p,vx,vy,rfl,hp,rfl,_⟩:=isD2 hd
  refine Yq (by decide +kernel) ⟨_,rfl,rfl,_,rfl,Yp (by decide +kernel) ⟨_,rfl,_,rfl,p,_,_,_,rfl,rfl,hp,rfl,n,rfl,by omega,lt20 (by omega),fun r H3 s3 h3 => ?_⟩⟩
  have ll:=Y8 n
  exact ⟨b,r,ys,bv (Lg n),rfl,s3 _ _ hb,.inl (Z9.of h3),by rw [Yj]; omega,fun H4 k4 => q H4 (k4.same s3)⟩
theorem ok_folded (F:Uj K "folded" "folded" s_folded f fd):Yy P w K mg base Um 1 f fd ["n"] spFold:=by
 refine F.ok sc_folded (fun vs H Q E h => ?_) (fun cdv A outer s H vs Q E hr h => ?_)
 ·obtain ⟨n,rfl,_⟩:=h
  rfl
 obtain ⟨n,rfl,q⟩:=h
 refine ⟨_,(@Zv _ _ _ (@Zd _ _ _ _ (@pe_ifExp _ _ _ _ _ _ _ _ (@Zm _ _ _ _ _ _ _ _ op_ge (pv 0) Zx (Zt _)) (@Zf _ _ _ _ _ _ _ _ Vp Zx (pv 0)) (@Zf _ _ _ _ _ _ _ _ Ug (@Zf _ _ _ _ _ _ _ _ Vp (@pe_un _ _ _ _ _ _ un_neg Zx) (pv 0)) Zx)))), ?_⟩
 refine ⟨_,rfl,_,_,rfl,rfl,_,rfl, ?_⟩
 refine ite2 (fun c => ?_) (fun c => ?_)
 ·have c':0 ≤ n:=of_decide_eq_true c
  refine ⟨_,rfl,_,_,rfl,rfl,.inl ⟨by decide,by decide⟩, ?_⟩
  have e:V8 n = 2 * n:=by unfold V8; rw [if_pos c']
  rw [e] at q
  exact q
 ·have c':¬ 0 ≤ n:=fun z => c (decide_eq_true z)
  refine ⟨_,rfl,_,rfl,_,_,rfl,rfl,.inl ⟨by decide,by decide⟩,_,_,rfl,rfl, ?_⟩
  have e:V8 n = -2 * n - 1:=by unfold V8; rw [if_neg c']
  rw [e] at q
  exact q
end
abbrev s_law_key:Stmt:=top 57
abbrev N_law_key:List Str:=["_law_key_here"]
theorem sc_law_key:Zs N_law_key ["_law_key_here"] (Zk s_law_key):=by trivial
abbrev s_law_packed:Stmt:=top 58
abbrev N_law_packed:List Str:=["_law_item_here","_law_rest_here","_law_part"]
theorem Va:Zs N_law_packed ["_law_item_here"] (Zk s_law_packed):=by trivial
theorem GdL.at {s:Nat} {ls:List Lb} (hs:s ≤ 2) (g:GdL s ls):∀ l ∈ ls,LbS s l:=by
 intro l m
 match s,hs,g with
 | 0,_,g => exact .inl ⟨rfl,g l m⟩
 | 1,_,⟨ks,e,h,_⟩ =>
  rw [e] at m
  obtain ⟨x,mx,rfl⟩:=List.mem_map.mp m
  exact .inr (.inl ⟨rfl,x,rfl,h x mx⟩)
 | 2,_,⟨ks,e,h,_⟩ =>
  rw [e] at m
  obtain ⟨x,mx,rfl⟩:=List.mem_map.mp m
  exact .inr (.inr ⟨rfl,x,rfl,h x mx⟩)
theorem prtDs_get:∀ {ls:List Lb} {ds:List D} {j:Nat} {l:Lb} {d:D},ls[j]? = some l→ds[j]? = some d→(Y1 ls ds)[j]? = some (prtD l d)
 | [],_,j,l,d,h,_ => by simp at h
 | _ :: _,[],j,l,d,_,h => by simp at h
 | l0 :: ls,d0 :: ds,0,l,d,h1,h2 => by
  simp at h1 h2
  subst h1 h2
  rfl
 | l0 :: ls,d0 :: ds,j + 1,l,d,h1,h2 => by
  simp only [Y1,List.getElem?_cons_succ]
  exact prtDs_get (by simpa using h1) (by simpa using h2)
theorem byIs_drop {ls:List Lb} {es:List IT} {j:Nat} {l:Lb} {e:IT} (h1:ls[j]? = some l) (h2:es[j]? = some e):Zu (ls.drop j) (es.drop j) = lbB l ++ Zi e ++ Zu (ls.drop (j + 1)) (es.drop (j + 1)):=by
 obtain ⟨a,b⟩:=List.getElem?_eq_some_iff.mp h1
 obtain ⟨c,d⟩:=List.getElem?_eq_some_iff.mp h2
 rw [List.drop_eq_getElem_cons a,List.drop_eq_getElem_cons c,b,d]
 simp only [Zu]
theorem byIs_drop_le (ls:List Lb) (es:List IT):∀ j,(Zu (ls.drop j) (es.drop j)).length ≤ (Zu ls es).length
 | 0 => Nat.le_refl _
 | j + 1 => by
  have ih:=byIs_drop_le ls es j
  by_cases h1:j < ls.length
  ·by_cases h2:j < es.length
   ·rw [byIs_drop (List.getElem?_eq_getElem h1) (List.getElem?_eq_getElem h2)] at ih
    simp only [List.length_append] at ih
    omega
   ·rw [List.drop_eq_nil_of_le (as:=es) (by omega)]
    cases ls.drop (j + 1) <;> simp [Zu]
  ·rw [List.drop_eq_nil_of_le (as:=ls) (by omega)]
   simp [Zu]
theorem srt_ne (s:Nat):(srt s == "whole") = false∧(srt s == "text") = false∧(srt s == "arm") = false:=by
 match s with
 | 0 => decide +kernel
 | 1 => decide +kernel
 | _ + 2 => exact (by decide +kernel:(("rec" : Str) == "whole") = false∧(("rec" : Str) == "text") = false∧(("rec" : Str) == "arm") = false)
theorem vs_ne {x z:Str} (h:(x == z) = false):decide (V.str x = V.str z) = false:=by
 rw [decide_eq_false_iff_not]
 intro e
 injection e with e
 rw [e,beq_self_eq_true] at h
 cases h
theorem areD_got {K:W.Frag} {H:Hp} {ds:List D} {vs:List V} {i:Nat} {v:V} (h:Zn K H ds vs) (e:vs[i]? = some v):∃ d,ds[i]? = some d∧Yv K H d v:=by
 have hi:=(List.getElem?_eq_some_iff.mp e).1
 have hi':i < ds.length:=by rw [h.length]; exact hi
 obtain ⟨v',e1,q⟩:=h.get (List.getElem?_eq_getElem hi')
 rw [e] at e1; cases e1
 exact ⟨_,List.getElem?_eq_getElem hi',q⟩
section
variable {P:Program} {w:World} {K:W.Frag} {mg:Str→Option Value} {base:Heap} {f:Addr} {fd:FuncData} {aS:Addr}
theorem sIndex {s:Nat} (hs:s ≤ 2):(["whole","text","row","map","rec","arm"]:List Str)[s + 2]? = some (srt s)∧∀ m,m < s + 2→(["whole","text","row","map","rec","arm"]:List Str)[m]? ≠ some (srt s):=by
 match s,hs with
 | 0,_ => exact ⟨by decide +kernel,by decide +kernel⟩
 | 1,_ => exact ⟨by decide +kernel,by decide +kernel⟩
 | 2,_ => exact ⟨by decide +kernel,by decide +kernel⟩
theorem ok_pack_item (F:Uj K "pack_item" "pack_item" s_pack_item f fd) (m:Bn mg) (so:Ub K aS) (x_SORTS:mg "SORTS" = some (.ref aS)) (bd:Binds K fd ["backwards","item"] []) (mf:mg "pack_item" = some (.ref f))
  (g_pack_bytes:Fn P w K mg base 1 "pack_bytes" ["backwards","codes"] (spBytes K)) (g_long_of:Fn P w K mg base 1 "long_of" ["n"] spLong) (g_pack_signs:Fn P w K mg base 2 "pack_signs" ["backwards","text"] spSigns)
  (g_pack_label:Fn P w K mg base 3 "pack_label" ["backwards","sort","part"] (spLabel K)) (g_folded:Fn P w K mg base 1 "folded" ["n"] spFold):∀ n,Yy P w K mg base Um (n + 4) f fd ["backwards","item"] (spPack K n)
 | 0 => ⟨fun vs H Q E h => h.elim,fun A outer s H args us vs Q E _ _ _ _ h => h.elim⟩
 | n + 1 => by
  have g_pack_item:Fn P w K mg base (n + 4) "pack_item" ["backwards","item"] (spPack K n):=⟨f,fd,ok_pack_item F m so x_SORTS bd mf g_pack_bytes g_long_of g_pack_signs g_pack_label g_folded n,bd,F.kp,mf⟩
  refine F.ok sc_pack_item (fun vs H Q E h => ?_) (fun cdv A outer s H vs Q E hr h => ?_)
  ·obtain ⟨b,v,it,ys,rfl,_⟩:=h
   rfl
  obtain ⟨b,v,it,ys,rfl,hd,gd,dp,lb,lt,hb,q⟩:=h
  refine ⟨_,(@Zj _ _ _ _ _ (@Zy _ 2 _ _ _ _ _ sc_pack_item.nd rfl (by trivial) (@Zr _ _ _ _ _ _ _ Zp (pv 1) Zx (fun _ _ => rfl)) rfl (by trivial)) (@Zj _ _ _ _ _ (@Z8 _ _ _ _ _ _ _ _ (@Zm _ _ _ _ _ _ _ _ Yf (pv 2) Zc (Zt _)) (@Zv _ _ _ (@Yw _ _ _ _ (@Zw _ _ _ _ _ _ _ _ _ _ g_pack_bytes hr.m rfl (Zg (pv 0) (Zg (@Zw _ _ _ _ _ _ _ _ _ _ g_long_of hr.m rfl (Zg (@Zw _ _ _ _ _ _ _ _ _ _ g_folded hr.m rfl (Zg (@Zr _ _ _ _ _ _ _ Zp (pv 1) Zx (fun _ _ => rfl)) Zz rfl) (by decide) rfl rfl) Zz rfl) (by decide) rfl rfl) Zz rfl) rfl) (by decide) rfl rfl) rfl)) (@Zv _ _ _ (@Z8 _ _ _ _ _ _ _ _ (@Zm _ _ _ _ _ _ _ _ Yf (pv 2) Zc (Zt _)) (@Zv _ _ _ (@Yw _ _ _ _ (@Zw _ _ _ _ _ _ _ _ _ _ g_pack_signs hr.m rfl (Zg (pv 0) (Zg (@Zr _ _ _ _ _ _ _ Zp (pv 1) Zx (fun _ _ => rfl)) Zz rfl) rfl) (by decide) rfl rfl) rfl)) (@Zv _ _ _ (@Z8 _ _ _ _ _ _ _ _ (@Zm _ _ _ _ _ _ _ _ Yf (pv 2) Zc (Zt _)) (@Zj _ _ _ _ _ (@Yw _ _ _ _ (@Zw _ _ _ _ _ _ _ _ _ _ g_pack_item hr.m rfl (Zg (pv 0) (Zg (@Zr _ _ _ _ _ _ _ Zp (pv 1) Zx (fun _ _ => rfl)) Zz rfl) rfl) (by decide) rfl rfl) rfl) (@Zv _ _ _ (@Yw _ _ _ _ (@Zw _ _ _ _ _ _ _ _ _ _ g_pack_bytes hr.m rfl (Zg (pv 0) (Zg (@Zw _ _ _ _ _ _ _ _ _ _ g_long_of hr.m rfl (Zg (@Zr _ _ _ _ _ _ _ Zp (pv 1) Zx (fun _ _ => rfl)) Zz rfl) (by decide) rfl rfl) Zz rfl) rfl) (by decide) rfl rfl) rfl))) (@Zj _ _ _ _ _ (@Zy _ 3 _ _ _ _ _ sc_pack_item.nd rfl (by trivial) (@Z5 _ _ _ _ _ _ _ _ _ Yg rfl m.len b_len (Zg (pv 0) Zz rfl) (by decide) (by decide) rfl rfl) rfl (by trivial)) (@Zj _ _ _ _ _ (@ps_for _ _ _ _ _ _ _ _ PassesOwn.never rfl (@pi_rev _ _ _ _ _ _ rfl m.reversed (Zg (@Zr _ _ _ _ _ _ _ Zp (pv 1) Zx (fun _ _ => rfl)) Zz rfl) rfl rfl) (@Z0 _ 4 _ _ sc_pack_item.nd rfl (Or.inl rfl) (by trivial)) (@Zj _ _ _ _ _ (@Yw _ _ _ _ (@Zw _ _ _ _ _ _ _ _ _ _ g_pack_item hr.m rfl (Zg (pv 0) (Zg (@pe_ifExp _ _ _ _ _ _ _ _ (@Zm _ _ _ _ _ _ _ _ Yf (pv 2) Zc (Zt _)) (pv 4) (@Zr _ _ _ _ _ _ _ Zp (pv 4) Zx (fun _ _ => rfl))) Zz rfl) rfl) (by decide) rfl rfl) rfl) (@Zv _ _ _ (@Yw _ _ _ _ (@Zw _ _ _ _ _ _ _ _ _ _ g_pack_label hr.m rfl (Zg (pv 0) (Zg (pv 2) (Zg (pv 4) Zz rfl) rfl) rfl) (by decide) rfl rfl) rfl))) (by trivial)) (@Zv _ _ _ (@Yw _ _ _ _ (@Zw _ _ _ _ _ _ _ _ _ _ g_pack_bytes hr.m rfl (Zg (pv 0) (Zg (@Zw _ _ _ _ _ _ _ _ _ _ g_long_of hr.m rfl (Zg (@Zf _ _ _ _ _ _ _ _ Ug (@Z5 _ _ _ _ _ _ _ _ _ Yg rfl m.len b_len (Zg (pv 0) Zz rfl) (by decide) (by decide) rfl rfl) (pv 3)) Zz rfl) (by decide) rfl rfl) Zz rfl) rfl) (by decide) rfl rfl) rfl))))))))) (@Zv _ _ _ (@Yw _ _ _ _ (@pe_bm _ _ _ _ _ _ _ _ _ _ _ _ PySem.F.plainAttrs_list PySem.F.slot_list_append PySem.F.type_list_append Uq (pv 0) (Zg (@pe_bm _ _ _ _ _ _ _ _ _ _ _ _ PySem.F.plainAttrs_tuple PySem.F.slot_tuple_index PySem.F.type_tuple_index mt_indexT (@Uk _ _ _ _ rfl x_SORTS (by decide)) (Zg (pv 2) Zz rfl) (by trivial) (by trivial) (by trivial) (by trivial) (by trivial)) Zz rfl) (by trivial) (by trivial) (by trivial) (by trivial) (by trivial)) rfl)))), ?_⟩
  cases it with
  | whole k =>
   obtain ⟨p,x,y,rfl,hp,rfl,rfl⟩:=isD2 hd
   have ll:=Y8 (V8 k)
   have lb':(Zi (.whole k)).length = (Lg (V8 k)).length + 1:=by simp only [Zi,List.length_cons]
   refine ⟨_,rfl,p,_,_,_,rfl,rfl,hp,rfl,_,rfl,rfl,_,rfl,Yp (by decide +kernel) ?_⟩
   refine ⟨_,rfl,_,rfl,p,_,_,_,rfl,rfl,hp,rfl,k,rfl,V8 k,rfl,fold_nn k,lt20 (Int.le_trans (fold_le gd.1 gd.2) (by decide)),fun r H1 s1 h1 => ?_⟩
   refine ⟨b,r,ys,bv (Lg (V8 k)),rfl,s1 _ _ hb,.inl (Z9.of h1),by rw [Yj]; omega,fun H2 k2 => ?_⟩
   have k3:=k2.same s1
   refine ⟨_,rfl,.inl ⟨rfl,_,Ym.of k3.at'⟩,so.ty _,_,rfl,aS,_,_,0,rfl,rfl,so.sq _,by decide +kernel,by decide,b,_,_,rfl,rfl,k3.at', ?_, ?_⟩
   ·rw [List.length_append,List.length_reverse,Yj]; exact Nat.lt_of_le_of_lt (show _ ≤ 3000000 by omega) (by decide)
   ·refine q _ ⟨fun x o n h => by rw [Zh n]; exact k3.keep x o n h, ?_⟩
    rw [Zq]
    simp only [Zi,bv,List.map_cons,List.reverse_cons,List.append_assoc]
    rfl
  | text x =>
   obtain ⟨p,vx,y,rfl,hp,rfl,rfl⟩:=isD2 hd
   have ll:=sgB_len x
   have lx:=gd.1
   refine ⟨_,rfl,p,_,_,_,rfl,rfl,hp,rfl,_,rfl,rfl,_,rfl,Yq (by decide +kernel) ?_⟩
   refine ⟨_,rfl,rfl,_,rfl,Yp (by decide +kernel) ?_⟩
   refine ⟨_,rfl,_,rfl,p,_,_,_,rfl,rfl,hp,rfl,b,x,ys,rfl,hb,by omega,by omega,fun H2 k3 => ?_⟩
   refine ⟨_,rfl,.inl ⟨rfl,_,Ym.of k3.at'⟩,so.ty _,_,rfl,aS,_,_,1,rfl,rfl,so.sq _,by decide +kernel,by decide +kernel,b,_,_,rfl,rfl,k3.at', ?_, ?_⟩
   ·rw [List.length_append,List.length_reverse,Yj]; exact Nat.lt_of_le_of_lt (show _ ≤ 3000000 by omega) (by decide)
   ·refine q _ ⟨fun x o n h => by rw [Zh n]; exact k3.keep x o n h, ?_⟩
    rw [Zq]
    simp only [Zi,bv,List.map_cons,List.reverse_cons,List.append_assoc]
    rfl
  | arm k e =>
   obtain ⟨p,vx,y,z,rfl,hp,rfl,rfl,hz⟩:=isD3 hd
   have ll:=Y8 k
   have lb':(Zi (.arm k e)).length = (Lg k).length + (Zi e).length + 1:=by simp only [Zi,List.length_cons,List.length_append]
   have de:Vx e + 1 ≤ n + 1:=dp
   have e1:1 ≤ Vx e:=by cases e <;> simp only [Vx] <;> omega
   obtain ⟨n',rfl⟩:∃ n',n = n' + 1:=⟨n - 1,by omega⟩
   refine ⟨_,rfl,p,_,_,_,rfl,rfl,hp,rfl,_,rfl,rfl,_,rfl,Yq (by decide +kernel) ?_⟩
   refine ⟨_,rfl,rfl,_,rfl,Yq (by decide +kernel) ?_⟩
   refine ⟨_,rfl,rfl,_,rfl,Yp (by decide +kernel) ?_⟩
   refine ⟨_,rfl,_,rfl,p,_,_,_,rfl,rfl,hp,rfl,b,z,e,ys,rfl,hz,gd.2.2,by omega,by omega,by omega,hb,fun H1 k1 => ?_⟩
   refine ⟨_,rfl,_,rfl,p,_,_,_,rfl,rfl,(k1.up hb) _ _ hp,rfl,k,rfl,by have:=gd.1; omega,lt20 (by have:=gd.2.1; omega),fun r H2 s2 h2 => ?_⟩
   refine ⟨b,r,_,bv (Lg k),rfl,s2 _ _ k1.at',.inl (Z9.of h2),by rw [List.length_append,List.length_reverse,Yj,Yj]; omega,fun H3 k3' => ?_⟩
   have k3:=k1.trans (k3'.same s2)
   refine ⟨_,rfl,.inl ⟨rfl,_,Ym.of k3.at'⟩,so.ty _,_,rfl,aS,_,_,5,rfl,rfl,so.sq _,by decide +kernel,by decide +kernel,b,_,_,rfl,rfl,k3.at', ?_, ?_⟩
   ·rw [List.length_append,List.length_append,List.length_reverse,List.length_reverse,Yj,Yj]; exact Nat.lt_of_le_of_lt (show _ ≤ 3000000 by omega) (by decide)
   ·refine q _ ⟨fun x o n h => by rw [Zh n]; exact k3.keep x o n h, ?_⟩
    rw [Zq]
    simp only [Zi,bv,List.map_cons,List.map_append,List.reverse_cons,List.reverse_append,List.append_assoc]
    rfl
  | lst st ls es =>
   obtain ⟨hs,hl,gl,ge⟩:=gd
   obtain ⟨p,vx,y,rfl,hp,rfl,pp,ws,rfl,hpp,ar⟩:=isD2 hd
   obtain ⟨n1,n2,n3⟩:=srt_ne st
   have hlen:es.length = ws.length:=by rw [← ar.length,prtDs_len (by rw [Y6,List.length_map]; exact hl),Y6,List.length_map]
   have ll:=Y8 (Zu ls es).length
   have lb':(Zi (.lst st ls es)).length = (Lg (Zu ls es).length).length + (Zu ls es).length + 1:=by simp only [Zi,List.length_cons,List.length_append]
   refine ⟨_,rfl,p,_,_,_,rfl,rfl,hp,rfl,_,rfl,rfl,_,rfl,Yq (vs_ne n1) ?_⟩
   refine ⟨_,rfl,rfl,_,rfl,Yq (vs_ne n2) ?_⟩
   refine ⟨_,rfl,rfl,_,rfl,Yq (vs_ne n3) ?_⟩
   refine ⟨_,rfl,b,ys,rfl,.inl (Ym.of hb), ?_⟩
   refine ⟨_,rfl,p,_,_,_,rfl,rfl,hp,rfl,pp,ws,rfl,hpp,for_rev (xs:=ws) (fun i σ H2 => (∃ o,σ = [some (.ref b),some (.ref p),some (.str (srt st)),some (.int ys.length),o])∧Bk b H H2 (ys ++ (bv (Zu (ls.drop (ws.length - i)) (es.drop (ws.length - i)))).reverse)) ⟨⟨_,rfl⟩,⟨fun _ _ _ h => h, ?_⟩⟩ ?_ ?_ ?_⟩
   ·rw [Nat.sub_zero, ← hlen,List.drop_length, ← hl,List.drop_length]
    show H b = some (.lst (ys ++ []))
    rw [List.append_nil]
    exact hb
   ·rintro i σ H2 hi ⟨_,k2⟩
    exact (k2.up hb) _ _ hpp
   ·rintro i x σ H2 hx ⟨⟨o,rfl⟩,k2⟩
    have hi:i < ws.length:=by have:=(List.getElem?_eq_some_iff.mp hx).1; rwa [List.length_reverse] at this
    rw [List.getElem?_reverse hi] at hx
    obtain ⟨j,hj⟩:∃ j,j = ws.length - 1 - i:=⟨_,rfl⟩
    rw [← hj] at hx
    have hjw:j < ws.length:=by omega
    have hje:j < es.length:=by omega
    have hjl:j < ls.length:=by omega
    obtain ⟨d,ed,id'⟩:=areD_got ar hx
    have el:ls[j]? = some ls[j]:=List.getElem?_eq_getElem hjl
    have ee:es[j]? = some es[j]:=List.getElem?_eq_getElem hje
    have ed2:=prtDs_get (ds:=toDs es) el (by rw [Y6,List.getElem?_map,ee]; rfl)
    rw [ed] at ed2
    cases ed2
    have ml:ls[j] ∈ ls:=List.getElem_mem hjl
    have me:es[j] ∈ es:=List.getElem_mem hje
    generalize ls[j] = l at el ml id' ed
    generalize es[j] = e at ee me id' ed
    have hls:=gl.at hs l ml
    have gde:=V0.mp ge e me
    have dd:Vx e + 1 ≤ n + 1:=by have:=dpI_mem me; simp only [Vx] at dp; omega
    have e1:1 ≤ Vx e:=by cases e <;> simp only [Vx] <;> omega
    obtain ⟨n',rfl⟩:∃ n',n = n' + 1:=⟨n - 1,by omega⟩
    have dr:Zu (ls.drop j) (es.drop j) = lbB l ++ Zi e ++ Zu (ls.drop (j + 1)) (es.drop (j + 1)):=byIs_drop el ee
    have drl:=byIs_drop_le ls es j
    rw [dr] at drl
    simp only [List.length_append] at drl
    have e3:ws.length - i = j + 1:=by omega
    have e4:ws.length - (i + 1) = j:=by omega
    rw [e3] at k2
    have idH:=Yv.up (k2.up hb) _ _ (by
     have:=Uy ls es
     exact noLs_mem this (List.mem_of_getElem? ed)) id'
    have kl:(ys ++ (bv (Zu (ls.drop (j + 1)) (es.drop (j + 1)))).reverse).length = ys.length + (Zu (ls.drop (j + 1)) (es.drop (j + 1))).length:=by rw [List.length_append,List.length_reverse,Yj]
    have last:∀ H3,Bk b H2 H3 (ys ++ (bv (Zu (ls.drop (j + 1)) (es.drop (j + 1)))).reverse ++ (bv (Zi e)).reverse)→spLabel K [.ref b,.str (srt st),x] H3 (fun v H4 => (∃ o,([some (.ref b),some (.ref p),some (.str (srt st)),some (.int ys.length),some x]:L2.St) = [some (.ref b),some (.ref p),some (.str (srt st)),some (.int ys.length),o])∧Bk b H H4 (ys ++ (bv (Zu (ls.drop (ws.length - (i + 1))) (es.drop (ws.length - (i + 1))))).reverse)) E0:=fun H3 k3 => by
     refine ⟨b,st,l,x,toD e,_,rfl,hls,Yv.up (k3.up k2.at') _ _ (noLs_mem (Uy ls es) (List.mem_of_getElem? ed)) idH,k3.at',by rw [List.length_append,kl,List.length_reverse,Yj]; omega,fun H4 k4 => ⟨⟨_,rfl⟩, ?_⟩⟩
     rw [e4,dr]
     have:=(k2.trans k3).trans k4
     rw [show ys ++ (bv (lbB l ++ Zi e ++ Zu (ls.drop (j + 1)) (es.drop (j + 1)))).reverse = ys ++ (bv (Zu (ls.drop (j + 1)) (es.drop (j + 1)))).reverse ++ (bv (Zi e)).reverse ++ (bv (lbB l)).reverse by rw [bv_app,bv_app,List.reverse_append,List.reverse_append]; simp only [List.append_assoc]]
     exact this
    refine ⟨_,rfl,_,rfl,rfl,_,rfl, ?_⟩
    rcases hls with ⟨rfl,rfl⟩ | ⟨rfl,x',rfl,nx⟩ | ⟨rfl,n'',rfl,n0,n1⟩
    ·refine Yp (by decide +kernel) ⟨_,rfl,b,x,e,_,rfl,idH,gde,by omega,by omega,by rw [kl]; omega,k2.at',fun H3 k3 => ?_⟩
     exact ⟨_,rfl,_,rfl,_,rfl,last H3 k3⟩
    ·obtain ⟨q1,vx',vy',rfl,hq1,_,iy⟩:=isD2 idH
     refine Yq (by decide +kernel) ⟨_,rfl,q1,_,_,_,rfl,rfl,hq1,rfl,b,vy',e,_,rfl,iy,gde,by omega,by omega,by rw [kl]; omega,k2.at',fun H3 k3 => ?_⟩
     exact ⟨_,rfl,_,rfl,_,rfl,last H3 k3⟩
    ·obtain ⟨q1,vx',vy',rfl,hq1,_,iy⟩:=isD2 idH
     refine Yq (by decide +kernel) ⟨_,rfl,q1,_,_,_,rfl,rfl,hq1,rfl,b,vy',e,_,rfl,iy,gde,by omega,by omega,by rw [kl]; omega,k2.at',fun H3 k3 => ?_⟩
     exact ⟨_,rfl,_,rfl,_,rfl,last H3 k3⟩
   ·rintro σ H2 ⟨⟨o,rfl⟩,k2⟩
    rw [Nat.sub_self,List.drop_zero,List.drop_zero] at k2
    have el2:(ys ++ (bv (Zu ls es)).reverse).length = ys.length + (Zu ls es).length:=by rw [List.length_append,List.length_reverse,Yj]
    refine ⟨_,rfl,_,rfl,b,_,rfl,.inl (Ym.of k2.at'),_,rfl,_,_,rfl,rfl,((Zu ls es).length:Int), ?_,by omega,lt20 (by omega),fun r H3 s3 h3 => ?_⟩
    ·have e9:(((ys ++ (bv (Zu ls es)).reverse).length:Nat):Int) - (ys.length:Int) = ((Zu ls es).length:Int):=by rw [el2]; omega
     exact congrArg (fun z => [V.int z]) e9
    refine ⟨b,r,_,bv (Lg (Zu ls es).length),rfl,s3 _ _ k2.at',.inl (Z9.of h3),by rw [el2,Yj]; omega,fun H4 k4 => ?_⟩
    have k3:=k2.trans (k4.same s3)
    obtain ⟨si,sn⟩:=sIndex hs
    refine ⟨_,rfl,.inl ⟨rfl,_,Ym.of k3.at'⟩,so.ty _,_,rfl,aS,_,_,st + 2,rfl,rfl,so.sq _,si,sn,b,_,_,rfl,rfl,k3.at', ?_, ?_⟩
    ·rw [List.length_append,el2,List.length_reverse,Yj]; exact Nat.lt_of_le_of_lt (show _ ≤ 3000000 by omega) (by decide)
    ·refine q _ ⟨fun x o n h => by rw [Zh n]; exact k3.keep x o n h, ?_⟩
     rw [Zq]
     simp only [Zi,bv,List.map_cons,List.map_append,List.reverse_cons,List.reverse_append,List.append_assoc]
     rfl
end
def spPacked (K:W.Frag) (N:Nat):Sp:=fun vs H Q _ => ∃ v it,vs = [v]∧Yv K H (toD it) v∧GdI it∧Vx it ≤ N + 1∧(Zi it).length ≤ 1000000∧∀ (r:Addr) (H':Hp),Zb H H'→H' r = some (.tup (bv (Zi it)))→Q (.ref r) H'
def lbV:Lb→V
 | .no => .non
 | .key x => .str x
 | .num n => .int n
def spKey (K:W.Frag):Sp:=fun vs H Q _ => ∃ l,vs = [lbV l]∧((∃ x,l = .key x∧x.length ≤ 1000) ∨ ∃ n,l = .num n∧0 ≤ n∧n ≤ 1000000)∧∀ (r:Addr) (H':Hp),Zb H H'→Z9 K H' r (bv (lbB l))→Q (.ref r) H'
def spLPack (K:W.Frag):Nat→Sp
 | 0 => fun _ _ _ _ => False
 | n + 1 => fun vs H Q _ => ∃ v it,vs = [v]∧Yv K H (toD it) v∧GdI it∧Vx it ≤ n + 1∧(Zi it).length ≤ 1000000∧∀ (r:Addr) (H':Hp),Zb H H'→Z9 K H' r (bv (Zi it))→Q (.ref r) H'
theorem byIs_take:∀ {ls:List Lb} {es:List IT} {j:Nat} {l:Lb} {e:IT},ls[j]? = some l→es[j]? = some e→Zu (ls.take (j + 1)) (es.take (j + 1)) = Zu (ls.take j) (es.take j) ++ lbB l ++ Zi e
 | [],_,j,l,e,h,_ => by simp at h
 | _ :: _,[],j,l,e,_,h => by simp at h
 | l0 :: ls,e0 :: es,0,l,e,h1,h2 => by
  simp at h1 h2
  subst h1 h2
  simp [Zu]
 | l0 :: ls,e0 :: es,j + 1,l,e,h1,h2 => by
  have ih:=byIs_take (ls:=ls) (es:=es) (j:=j) (by simpa using h1) (by simpa using h2)
  rw [List.take_succ_cons,List.take_succ_cons,List.take_succ_cons,List.take_succ_cons]
  simp only [Zu]
  rw [ih]
  simp only [List.append_assoc]
theorem byIs_take_le:∀ (ls:List Lb) (es:List IT) (j:Nat),(Zu (ls.take j) (es.take j)).length ≤ (Zu ls es).length
 | [],_,j => by simp [Zu]
 | _ :: _,[],j => by cases j <;> simp [Zu]
 | l :: ls,e :: es,0 => by simp [Zu]
 | l :: ls,e :: es,j + 1 => by
  have:=byIs_take_le ls es j
  rw [List.take_succ_cons,List.take_succ_cons]
  simp only [Zu,List.length_append]; omega
theorem sIndex3 {s:Nat} (hs:s ≤ 2):(["row","map","rec"]:List Str)[s]? = some (srt s)∧∀ m,m < s→(["row","map","rec"]:List Str)[m]? ≠ some (srt s):=by
 match s,hs with
 | 0,_ => exact ⟨by decide +kernel,by decide +kernel⟩
 | 1,_ => exact ⟨by decide +kernel,by decide +kernel⟩
 | 2,_ => exact ⟨by decide +kernel,by decide +kernel⟩
section
variable {P:Program} {w:World} {K:W.Frag} {mg:Str→Option Value} {base:Heap} {f:Addr} {fd:FuncData} {aS:Addr}
theorem ok_packed {N:Nat} (F:Uj K "packed" "packed" s_packed f fd) (m:Bn mg) (g_pack_item:Fn P w K mg base (N + 5) "pack_item" ["backwards","item"] (spPack K (N + 1))):Yy P w K mg base Um (N + 6) f fd ["item"] (spPacked K N):=by
 refine F.ok sc_packed (fun vs H Q E h => ?_) (fun cdv A outer s H vs Q E hr h => ?_)
 ·obtain ⟨v,it,rfl,_⟩:=h
  rfl
 obtain ⟨v,it,rfl,hd,gd,dp,lb,q⟩:=h
 refine ⟨_,(@Zj _ _ _ _ _ (@Zy _ 1 _ _ _ _ _ sc_packed.nd rfl (by trivial) (@Y2 _ _ _ _ Zz) rfl (by trivial)) (@Zj _ _ _ _ _ (@Yw _ _ _ _ (@Zw _ _ _ _ _ _ _ _ _ _ g_pack_item hr.m rfl (Zg (pv 1) (Zg (pv 0) Zz rfl) rfl) (by decide) rfl rfl) rfl) (@Zv _ _ _ (@Zd _ _ _ _ (@pe_tupRev _ _ _ _ _ _ _ rfl rfl m.tuple rfl m.reversed (Zg (pv 1) Zz rfl) rfl rfl rfl))))), ?_⟩
 refine ⟨(sz 0),fun b hb => ?_⟩
 refine ⟨_,rfl,_,rfl,b,v,it,[],rfl,Yv.up (Zb.lay hb).up _ _ (Z7 it) hd,gd,dp,lb,by rw [List.length_nil]; omega,Zq,fun H1 k1 => ?_⟩
 refine ⟨_,rfl,b,_,rfl,Ym.of k1.at',fun p hp => ?_⟩
 have s1:Zb H H1:=fun x o h => k1.keep x o (Zl h hb) ((Zb.lay hb) _ _ h)
 refine q p _ (s1.put (s1.free hp)) ?_
 rw [Zq,List.nil_append,List.reverse_reverse]
theorem ok_law_key (F:Uj K "_law_key" "_law_key" s_law_key f fd) (m:Bn mg) (g_law_long:Fn P w K mg base 1 "_law_long" ["_law_n"] spLong):Yy P w K mg base Um 2 f fd ["_law_key_here"] (spKey K):=by
 refine F.ok sc_law_key (fun vs H Q E h => ?_) (fun cdv A outer s H vs Q E hr h => ?_)
 ·obtain ⟨l,rfl,_⟩:=h
  rfl
 obtain ⟨l,rfl,hl,q⟩:=h
 refine ⟨_,(@Zj _ _ _ _ _ (@Z8 _ _ _ _ _ _ _ _ (@pt_val _ _ _ (@Z5 _ _ _ _ _ _ _ _ _ call_isi rfl m.isinstance b_isinstance (Zg (pv 0) (Zg (@pe_bltnT _ _ _ _ rfl m.str b_str (by decide) (by decide)) Zz rfl) rfl) (by decide) (by decide) rfl rfl) (by intro _; rfl)) (@Zv _ _ _ (@Zd _ _ _ _ (@Zf _ _ _ _ _ _ _ _ Uf (@Zw _ _ _ _ _ _ _ _ _ _ g_law_long hr.m rfl (Zg (@Z5 _ _ _ _ _ _ _ _ _ call_len_str rfl m.len b_len (Zg (pv 0) Zz rfl) (by decide) (by decide) rfl rfl) Zz rfl) (by decide) rfl rfl) (@Yt _ _ _ _ _ _ _ _ _ Yc rfl m.tuple b_tuple (Zg (@Vw _ N_law_key (Zk s_law_key) ["_law_sign"] [none] _ _ _ _ _ _ _ _ _ _ rfl (@pi_str _ _ _ _ (pv 0)) ⟨rfl,rfl,by decide +kernel,by decide +kernel⟩ (fun _ _ _ => (@Z0 _ 0 _ _ (show List.Nodup (["_law_sign"]:List Str) from by decide +kernel) rfl (Or.inl rfl) (by trivial))) (fun _ _ _ => Vf) (fun _ _ _ => (@Z5 _ _ _ _ _ _ _ _ _ call_ord rfl m.ord b_ord (Zg (pv 0) Zz rfl) (by decide) (by decide) rfl rfl)) (by trivial)) Zz rfl) (by trivial) (by trivial) (by trivial) (by trivial))))) Za) (@Zv _ _ _ (@Zd _ _ _ _ (@Zw _ _ _ _ _ _ _ _ _ _ g_law_long hr.m rfl (Zg (pv 0) Zz rfl) (by decide) rfl rfl)))), ?_⟩
 rcases hl with ⟨x,rfl,hx⟩ | ⟨n,rfl,h0,h1⟩
 ·have ll:=Y8 x.length
  have lc:=Y0 x
  refine ⟨_,rfl,_,"str",_,true,rfl,TyOf.str x,rfl,_,rfl,Yp rfl ?_⟩
  refine ⟨_,rfl,x,rfl,Nat.le_trans hx (by decide),_,rfl,by omega,lt20 (by omega),fun r H1 s1 h1 => ?_⟩
  refine ⟨_,rfl,x,rfl,fun D fp sx hD => ord_comp (Nat.le_trans hx (by decide)) hD fun H2 s2 h2 => ?_⟩
  refine ⟨D,_,rfl,.inl ⟨Ym.of h2,fun l hl => ?_⟩⟩
  have s3:=Zb.lay (o:=.tup (bv (Vo x))) hl
  refine ⟨r,l,_,_,rfl,rfl,Z9.of ((s2.trans s3) _ _ h1),Z9.of Zq, ?_,fun p H' s' h' => q p H' ((s1.trans (s2.trans s3)).trans s') ?_⟩
  ·rw [List.length_map,Yj]; exact Nat.le_trans (show _ ≤ 3000 by have:(Lf 19 x.length).length ≤ 20:=ll; omega) (by decide)
  ·have e:bv (lbB (.key x)) = (Lf 19 (x.length:Int)).map V.int ++ bv (Vo x):=bv_app _ _
   rw [e]
   exact h'
 ·refine ⟨_,rfl,_,"str",_,false,rfl,TyOf.int n,rfl,_,rfl,Yq rfl ?_⟩
  exact ⟨_,rfl,n,rfl,h0,lt20 (by omega),fun r H1 s1 h1 => q r H1 s1 (Z9.of h1)⟩
theorem ok_law_packed (F:Uj K "_law_packed" "_law_packed" s_law_packed f fd) (m:Bn mg) (bd:Binds K fd ["_law_item_here"] []) (mf:mg "_law_packed" = some (.ref f)) (g_law_long:Fn P w K mg base 1 "_law_long" ["_law_n"] spLong)
  (g_law_key:Fn P w K mg base 2 "_law_key" ["_law_key_here"] (spKey K)):∀ n,Yy P w K mg base Um (n + 3) f fd ["_law_item_here"] (spLPack K n)
 | 0 => ⟨fun vs H Q E h => h.elim,fun A outer s H args us vs Q E _ _ _ _ h => h.elim⟩
 | n + 1 => by
  have g_law_packed:Fn P w K mg base (n + 3) "_law_packed" ["_law_item_here"] (spLPack K n):=⟨f,fd,ok_law_packed F m bd mf g_law_long g_law_key n,bd,F.kp,mf⟩
  refine F.ok Va (fun vs H Q E h => ?_) (fun cdv A outer s H vs Q E hr h => ?_)
  ·obtain ⟨v,it,rfl,_⟩:=h
   rfl
  obtain ⟨v,it,rfl,hd,gd,dp,lb,q⟩:=h
  refine ⟨_,(@Zj _ _ _ _ _ (@Z8 _ _ _ _ _ _ _ _ (@Zm _ _ _ _ _ _ _ _ Yf (@Zr _ _ _ _ _ _ _ Zp (pv 0) Zx (fun _ _ => rfl)) Zc (Zt _)) (@Zv _ _ _ (@Zd _ _ _ _ (@Zf _ _ _ _ _ _ _ _ Uf (@Z3 _ _ _ _ _ (Zg Zx Zz rfl)) (@Zw _ _ _ _ _ _ _ _ _ _ g_law_long hr.m rfl (Zg (@Zr _ _ _ _ _ _ _ Yo (@Y2 _ _ _ _ (Zg (@Zf _ _ _ _ _ _ _ _ Vp Zx (@Zr _ _ _ _ _ _ _ Zp (pv 0) Zx (fun _ _ => rfl))) (Zg (@Zf _ _ _ _ _ _ _ _ Ug (@Zf _ _ _ _ _ _ _ _ Vp (@pe_un _ _ _ _ _ _ un_neg Zx) (@Zr _ _ _ _ _ _ _ Zp (pv 0) Zx (fun _ _ => rfl))) Zx) Zz rfl) rfl)) (@Yt _ _ _ _ _ _ _ _ _ call_int1 rfl m.int b_int (Zg (@Vb _ _ _ _ _ _ _ _ op_lt (@Zr _ _ _ _ _ _ _ Zp (pv 0) Zx (fun _ _ => rfl)) Zx (Zt _)) Zz rfl) (by trivial) (by trivial) (by trivial) (by trivial)) (fun _ _ => rfl)) Zz rfl) (by decide) rfl rfl)))) Za) (@Zj _ _ _ _ _ (@Z8 _ _ _ _ _ _ _ _ (@Zm _ _ _ _ _ _ _ _ Yf (@Zr _ _ _ _ _ _ _ Zp (pv 0) Zx (fun _ _ => rfl)) Zc (Zt _)) (@Zv _ _ _ (@Zd _ _ _ _ (@Zf _ _ _ _ _ _ _ _ Uf (@Z3 _ _ _ _ _ (Zg Zx Zz rfl)) (@Zw _ _ _ _ _ _ _ _ _ _ g_law_key hr.m rfl (Zg (@Zr _ _ _ _ _ _ _ Zp (pv 0) Zx (fun _ _ => rfl)) Zz rfl) (by decide) rfl rfl)))) Za) (@Zj _ _ _ _ _ (@Z8 _ _ _ _ _ _ _ _ (@Zm _ _ _ _ _ _ _ _ Yf (@Zr _ _ _ _ _ _ _ Zp (pv 0) Zx (fun _ _ => rfl)) Zc (Zt _)) (@Zv _ _ _ (@Zd _ _ _ _ (@Zf _ _ _ _ _ _ _ _ Uf (@Zf _ _ _ _ _ _ _ _ Uf (@Z3 _ _ _ _ _ (Zg Zx Zz rfl)) (@Zw _ _ _ _ _ _ _ _ _ _ g_law_long hr.m rfl (Zg (@Zr _ _ _ _ _ _ _ Zp (pv 0) Zx (fun _ _ => rfl)) Zz rfl) (by decide) rfl rfl)) (@Zw _ _ _ _ _ _ _ _ _ _ g_law_packed hr.m rfl (Zg (@Zr _ _ _ _ _ _ _ Zp (pv 0) Zx (fun _ _ => rfl)) Zz rfl) (by decide) rfl rfl)))) Za) (@Zj _ _ _ _ _ (@Zy _ 1 _ _ _ _ _ Va.nd rfl (by trivial) (@Z3 _ _ _ _ _ Zz) rfl (by trivial)) (@Zj _ _ _ _ _ (@ps_for _ _ _ _ _ _ _ _ PassesOwn.never rfl (@pi_tup _ _ _ _ (@Zr _ _ _ _ _ _ _ Zp (pv 0) Zx (fun _ _ => rfl))) (@Z0 _ 2 _ _ Va.nd rfl (Or.inl rfl) (by trivial)) (@Zv _ _ _ (@Z8 _ _ _ _ _ _ _ _ (@Zm _ _ _ _ _ _ _ _ Yf (@Zr _ _ _ _ _ _ _ Zp (pv 0) Zx (fun _ _ => rfl)) Zc (Zt _)) (@Zv _ _ _ (@Zy _ 1 _ _ _ _ _ Va.nd rfl (by trivial) (@Zf _ _ _ _ _ _ _ _ Uf (pv 1) (@Zw _ _ _ _ _ _ _ _ _ _ g_law_packed hr.m rfl (Zg (pv 2) Zz rfl) (by decide) rfl rfl)) rfl (by trivial))) (@Zv _ _ _ (@Zy _ 1 _ _ _ _ _ Va.nd rfl (by trivial) (@Zf _ _ _ _ _ _ _ _ Uf (@Zf _ _ _ _ _ _ _ _ Uf (pv 1) (@Zw _ _ _ _ _ _ _ _ _ _ g_law_key hr.m rfl (Zg (@Zr _ _ _ _ _ _ _ Zp (pv 2) Zx (fun _ _ => rfl)) Zz rfl) (by decide) rfl rfl)) (@Zw _ _ _ _ _ _ _ _ _ _ g_law_packed hr.m rfl (Zg (@Zr _ _ _ _ _ _ _ Zp (pv 2) Zx (fun _ _ => rfl)) Zz rfl) (by decide) rfl rfl)) rfl (by trivial))))) (by trivial)) (@Zv _ _ _ (@Zd _ _ _ _ (@Zf _ _ _ _ _ _ _ _ Uf (@Zf _ _ _ _ _ _ _ _ Uf (@Z3 _ _ _ _ _ (Zg (@Zf _ _ _ _ _ _ _ _ Z1 (@pe_bm _ _ _ _ _ _ _ _ _ _ _ _ PySem.F.plainAttrs_list PySem.F.slot_list_index PySem.F.type_list_index mt_indexL (@Y2 _ _ _ _ (Zg Zc (Zg Zc (Zg Zc Zz rfl) rfl) rfl)) (Zg (@Zr _ _ _ _ _ _ _ Zp (pv 0) Zx (fun _ _ => rfl)) Zz rfl) (by trivial) (by trivial) (by trivial) (by trivial) (by trivial)) Zx) Zz rfl)) (@Zw _ _ _ _ _ _ _ _ _ _ g_law_long hr.m rfl (Zg (@Z5 _ _ _ _ _ _ _ _ _ Yg rfl m.len b_len (Zg (pv 1) Zz rfl) (by decide) (by decide) rfl rfl) Zz rfl) (by decide) rfl rfl)) (pv 1))))))))), ?_⟩
  have small:∀ m:Nat,m ≤ 3000000→m ≤ sizeLine:=fun m h => Nat.le_trans h (by decide)
  cases it with
  | whole k =>
   obtain ⟨p,x,y,rfl,hp,rfl,rfl⟩:=isD2 hd
   have ll:=Y8 (V8 k)
   refine ⟨_,rfl,p,_,_,_,rfl,rfl,hp,rfl,rfl,_,rfl,Yp (by decide +kernel) ?_⟩
   refine ⟨(sz 1),fun p0 hp0 => ?_⟩
   have s0:Zb H (Z4 H p0 (.tup [.int 0])):=Zb.lay hp0
   have hp1:=s0.up _ _ hp
   refine ⟨_,rfl,p,_,_,_,rfl,rfl,hp1,rfl,_,_,rfl,rfl,.inl ⟨by decide,by decide⟩, ?_⟩
   refine ⟨_,rfl,_,rfl,p,_,_,_,rfl,rfl,hp1,rfl,_,_,rfl,rfl,.inl ⟨by decide,by decide⟩,_,_,rfl,rfl, ?_⟩
   refine ⟨(sz 2),fun l hl => ?_⟩
   have s1:=s0.trans (Zb.lay (o:=.lst [.int (2 * k),.int (-2 * k - 1)]) hl)
   have hp2:=s1.up _ _ hp
   refine ⟨_,rfl,p,_,_,_,rfl,rfl,hp2,rfl,_,_,rfl,rfl,.inr ⟨_,rfl, ?_⟩⟩
   refine ⟨l,_,_,.int (V8 k),rfl,rfl,Ym.of Zq, ?_, ?_⟩
   ·by_cases hk:k < 0
    ·have e:V8 k = -2 * k - 1:=by unfold V8; rw [if_neg (by omega)]
     rw [decide_eq_true hk,e]
     rfl
    ·have e:V8 k = 2 * k:=by unfold V8; rw [if_pos (by omega)]
     rw [decide_eq_false hk,e]
     rfl
   refine ⟨_,rfl,fold_nn k,lt20 (Int.le_trans (fold_le gd.1 gd.2) (by decide)),fun r H2 s2 h2 => ?_⟩
   refine ⟨p0,r,_,_,rfl,rfl,Z9.of (s2 _ _ ((Zb.lay hl) _ _ Zq)),Z9.of h2, ?_,fun p' H' s' h' => q p' H' ((s1.trans s2).trans s') h'⟩
   rw [List.length_map,List.length_singleton]; exact small _ (by have:(Lf 19 (V8 k)).length ≤ 20:=ll; omega)
  | text x =>
   obtain ⟨p,vx,y,rfl,hp,rfl,rfl⟩:=isD2 hd
   have ll:=sgB_len x
   have lx:=gd.1
   refine ⟨_,rfl,p,_,_,_,rfl,rfl,hp,rfl,rfl,_,rfl,Yq (by decide +kernel) ?_⟩
   refine ⟨_,rfl,p,_,_,_,rfl,rfl,hp,rfl,rfl,_,rfl,Yp (by decide +kernel) ?_⟩
   refine ⟨(sz 1),fun p0 hp0 => ?_⟩
   have s0:Zb H (Z4 H p0 (.tup [.int 1])):=Zb.lay hp0
   refine ⟨_,rfl,p,_,_,_,rfl,rfl,s0.up _ _ hp,rfl,.key x,rfl,.inl ⟨x,rfl,by omega⟩,fun r H2 s2 h2 => ?_⟩
   refine ⟨p0,r,_,_,rfl,rfl,Z9.of (s2 _ _ Zq),h2, ?_,fun p' H' s' h' => q p' H' ((s0.trans s2).trans s') h'⟩
   rw [Yj,List.length_singleton]; exact small _ (by show 1 + (sgB x).length ≤ _; omega)
  | arm k e =>
   obtain ⟨p,vx,y,z,rfl,hp,rfl,rfl,hz⟩:=isD3 hd
   have ll:=Y8 k
   have lb':(Zi (.arm k e)).length = (Lg k).length + (Zi e).length + 1:=by simp only [Zi,List.length_cons,List.length_append]
   have de:Vx e + 1 ≤ n + 1:=dp
   have e1:1 ≤ Vx e:=by cases e <;> simp only [Vx] <;> omega
   obtain ⟨n',rfl⟩:∃ n',n = n' + 1:=⟨n - 1,by omega⟩
   refine ⟨_,rfl,p,_,_,_,rfl,rfl,hp,rfl,rfl,_,rfl,Yq (by decide +kernel) ?_⟩
   refine ⟨_,rfl,p,_,_,_,rfl,rfl,hp,rfl,rfl,_,rfl,Yq (by decide +kernel) ?_⟩
   refine ⟨_,rfl,p,_,_,_,rfl,rfl,hp,rfl,rfl,_,rfl,Yp (by decide +kernel) ?_⟩
   refine ⟨(sz 1),fun p0 hp0 => ?_⟩
   have s0:Zb H (Z4 H p0 (.tup [.int 5])):=Zb.lay hp0
   refine ⟨_,rfl,p,_,_,_,rfl,rfl,s0.up _ _ hp,rfl,k,rfl,by have:=gd.1; omega,lt20 (by have:=gd.2.1; omega),fun r H2 s2 h2 => ?_⟩
   refine ⟨p0,r,_,_,rfl,rfl,Z9.of (s2 _ _ Zq),Z9.of h2, ?_,fun p1 H3 s3 h3 => ?_⟩
   ·rw [List.length_map,List.length_singleton]; exact small _ (by have:(Lf 19 k).length ≤ 20:=ll; omega)
   have s03:=(s0.trans s2).trans s3
   refine ⟨_,rfl,p,_,_,_,rfl,rfl,s03.up _ _ hp,rfl,z,e,rfl,Yv.up s03.up _ _ (Z7 e) hz,gd.2.2,by omega,by omega,fun r4 H4 s4 h4 => ?_⟩
   refine ⟨p1,r4,_,_,rfl,rfl,s4.up _ _ h3,h4, ?_,fun p' H' s' h' => q p' H' ((s03.trans s4).trans s') ?_⟩
   ·rw [List.length_append,List.length_map,List.length_singleton,Yj]; exact small _ (by have:(Lf 19 k).length ≤ 20:=ll; omega)
   ·have e9:bv (Zi (.arm k e)) = [V.int 5] ++ (Lf 19 k).map V.int ++ bv (Zi e):=by
     simp only [Zi,bv,List.map_cons,List.map_append,List.append_assoc]; rfl
    rw [e9]; exact h'
  | lst st ls es =>
   obtain ⟨hs,hl,gl,ge⟩:=gd
   obtain ⟨p,vx,y,rfl,hp,rfl,pp,ws,rfl,hpp,ar⟩:=isD2 hd
   obtain ⟨n1,n2,n3⟩:=srt_ne st
   have hlen:es.length = ws.length:=by rw [← ar.length,prtDs_len (by rw [Y6,List.length_map]; exact hl),Y6,List.length_map]
   have ll:=Y8 (Zu ls es).length
   have lb':(Zi (.lst st ls es)).length = (Lg (Zu ls es).length).length + (Zu ls es).length + 1:=by simp only [Zi,List.length_cons,List.length_append]
   refine ⟨_,rfl,p,_,_,_,rfl,rfl,hp,rfl,rfl,_,rfl,Yq (vs_ne n1) ?_⟩
   refine ⟨_,rfl,p,_,_,_,rfl,rfl,hp,rfl,rfl,_,rfl,Yq (vs_ne n2) ?_⟩
   refine ⟨_,rfl,p,_,_,_,rfl,rfl,hp,rfl,rfl,_,rfl,Yq (vs_ne n3) ?_⟩
   refine ⟨(sz 0),fun p0 hp0 => ?_⟩
   have s0:Zb H (Z4 H p0 (.tup [])):=Zb.lay hp0
   refine ⟨_,rfl,p,_,_,_,rfl,rfl,s0.up _ _ hp,rfl,pp,rfl,⟨_,s0.up _ _ hpp⟩,for_tup (xs:=ws) (fun i σ H2 => (∃ o a,σ = [some (.ref p),some (.ref a),o]∧Z9 K H2 a (bv (Zu (ls.take i) (es.take i))))∧Zb H H2) ⟨⟨_,_,rfl,Z9.of Zq⟩,s0⟩ ?_ ?_ ?_⟩
   ·rintro i σ H2 hi ⟨_,k2⟩
    exact k2.up _ _ hpp
   ·rintro i x σ H2 hx ⟨⟨o,a,rfl,ha⟩,k2⟩
    have hi:i < ws.length:=(List.getElem?_eq_some_iff.mp hx).1
    have hje:i < es.length:=by omega
    have hjl:i < ls.length:=by omega
    obtain ⟨d,ed,id'⟩:=areD_got ar hx
    have el:ls[i]? = some ls[i]:=List.getElem?_eq_getElem hjl
    have ee:es[i]? = some es[i]:=List.getElem?_eq_getElem hje
    have ed2:=prtDs_get (ds:=toDs es) el (by rw [Y6,List.getElem?_map,ee]; rfl)
    rw [ed] at ed2
    cases ed2
    have ml:ls[i] ∈ ls:=List.getElem_mem hjl
    have me:es[i] ∈ es:=List.getElem_mem hje
    have tk:Zu (ls.take (i + 1)) (es.take (i + 1)) = Zu (ls.take i) (es.take i) ++ lbB ls[i] ++ Zi es[i]:=byIs_take el ee
    have tkl:=byIs_take_le ls es (i + 1)
    generalize ls[i] = l at el ml id' ed tk
    generalize es[i] = e at ee me id' ed tk
    have hls:=gl.at hs l ml
    have gde:=V0.mp ge e me
    have dd:Vx e + 1 ≤ n + 1:=by have:=dpI_mem me; simp only [Vx] at dp; omega
    have e1:1 ≤ Vx e:=by cases e <;> simp only [Vx] <;> omega
    obtain ⟨n',rfl⟩:∃ n',n = n' + 1:=⟨n - 1,by omega⟩
    rw [tk] at tkl
    simp only [List.length_append] at tkl
    have idH:=Yv.up k2.up _ _ (noLs_mem (Uy ls es) (List.mem_of_getElem? ed)) id'
    refine ⟨_,rfl,p,_,_,_,rfl,rfl,k2.up _ _ hp,rfl,rfl,_,rfl, ?_⟩
    rcases hls with ⟨rfl,rfl⟩ | hls
    ·refine Yp (by decide +kernel) ⟨_,rfl,_,rfl,x,e,rfl,idH,gde,by omega,by omega,fun r H3 s3 h3 => ?_⟩
     refine ⟨a,r,_,_,rfl,rfl,s3.up _ _ ha,h3, ?_,fun p1 H4 s4 h4 => ⟨⟨_,p1,rfl, ?_⟩,(k2.trans s3).trans s4⟩⟩
     ·rw [Yj,Yj]; exact small _ (by omega)
     ·rw [tk,bv_app,bv_app]
      show Z9 K H4 p1 (bv (Zu (ls.take i) (es.take i)) ++ [] ++ bv (Zi e))
      rw [List.append_nil]; exact h4
    ·have two:∃ x' e',prtD l (toD e) = .tup [x',toD e]∧(∀ v H,Yv K H x' v→v = lbV l)∧((∃ x,l = .key x∧x.length ≤ 1000) ∨ ∃ n,l = .num n∧0 ≤ n∧n ≤ 1000000)∧decide (V.str (srt st) = V.str "row") = e'∧e' = false:=by
      rcases hls with ⟨rfl,x',rfl,nx⟩ | ⟨rfl,n'',rfl,n0,n1⟩
      ·exact ⟨.str x',_,rfl,fun v H h => h,.inl ⟨x',rfl,by have:=nx.2.1; omega⟩,rfl,by decide +kernel⟩
      ·exact ⟨.int n'',_,rfl,fun v H h => h,.inr ⟨n'',rfl,by omega,by omega⟩,rfl,by decide +kernel⟩
     obtain ⟨x',e',ep,xv,lk,er,rfl⟩:=two
     rw [ep] at idH
     obtain ⟨q1,vx',vy',rfl,hq1,ix,iy⟩:=isD2 idH
     cases xv _ _ ix
     refine Yq er ⟨_,rfl,_,rfl,q1,_,_,_,rfl,rfl,hq1,rfl,l,rfl,lk,fun r H3 s3 h3 => ?_⟩
     refine ⟨a,r,_,_,rfl,rfl,s3.up _ _ ha,h3, ?_,fun p1 H4 s4 h4 => ?_⟩
     ·rw [Yj,Yj]; exact small _ (by omega)
     have s34:=s3.trans s4
     refine ⟨_,rfl,q1,_,_,_,rfl,rfl,s34.up _ _ hq1,rfl,vy',e,rfl,Yv.up s34.up _ _ (Z7 e) iy,gde,by omega,by omega,fun r5 H5 s5 h5 => ?_⟩
     refine ⟨p1,r5,_,_,rfl,rfl,s5.up _ _ h4,h5, ?_,fun p2 H6 s6 h6 => ⟨⟨_,p2,rfl, ?_⟩,((k2.trans s34).trans s5).trans s6⟩⟩
     ·rw [List.length_append,Yj,Yj,Yj]; exact small _ (by omega)
     ·rw [tk,bv_app,bv_app]; exact h6
   ·rintro σ H2 ⟨⟨o,a,rfl,ha⟩,k2⟩
    rw [← hlen,List.take_length, ← hl,List.take_length] at ha
    refine ⟨(sz 3),fun l3 hl3 => ?_⟩
    have s3:=Zb.lay (o:=.lst [.str "row",.str "map",.str "rec"]) hl3
    have k3:=k2.trans s3
    refine ⟨.inl ⟨rfl,_,Ym.of Zq⟩,_,rfl,p,_,_,_,rfl,rfl,k3.up _ _ hp,rfl, ?_⟩
    refine ⟨l3,["row","map","rec"],srt st,st,rfl,rfl,Ym.of Zq,(sIndex3 hs).1,(sIndex3 hs).2,_,_,rfl,rfl, ?_⟩
    refine ⟨(sz 1),fun p4 hp4 => ?_⟩
    have s4:=Zb.lay (o:=.tup [.int ((st:Int) + 2)]) hp4
    have ha4:=(s3.trans s4).up (K:=K) _ _ ha
    refine ⟨_,rfl,a,_,rfl,.inr ha4,_,rfl,by omega,lt20 (by rw [Yj]; omega),fun r5 H5 s5 h5 => ?_⟩
    rw [Yj] at h5
    refine ⟨p4,r5,_,_,rfl,rfl,Z9.of (s5 _ _ Zq),Z9.of h5, ?_,fun p6 H6 s6 h6 => ?_⟩
    ·rw [List.length_map,List.length_singleton]; exact small _ (by have:(Lf 19 ((Zu ls es).length:Int)).length ≤ 20:=ll; omega)
    refine ⟨_,rfl,p6,a,_,_,rfl,rfl,h6,(s5.trans s6).up _ _ ha4, ?_,fun p' H' s' h' => q p' H' ((((k3.trans s4).trans s5).trans s6).trans s') ?_⟩
    ·rw [List.length_append,List.length_map,List.length_singleton,Yj]; exact small _ (by have:(Lf 19 ((Zu ls es).length:Int)).length ≤ 20:=ll; omega)
    ·have e9:bv (Zi (.lst st ls es)) = [V.int ((st:Int) + 2)] ++ (Lf 19 ((Zu ls es).length:Int)).map V.int ++ bv (Zu ls es):=by
      simp only [Zi,bv,List.map_cons,List.map_append,List.append_assoc]; rfl
     rw [e9]; exact h'
end
abbrev s_Reader_init:Stmt:=V1 (top 26) 0
abbrev N_Reader_init:List Str:=["self","source","at","end"]
theorem sc_Reader_init:Zs N_Reader_init ["self","source","at","end"] (Zk s_Reader_init):=by trivial
abbrev V5:Stmt:=V1 (top 26) 1
abbrev N_Reader_next_byte:List Str:=["self"]
theorem sc_Reader_next_byte:Zs N_Reader_next_byte ["self"] (Zk V5):=by trivial
abbrev s_Reader_must:Stmt:=V1 (top 26) 2
abbrev N_Reader_must:List Str:=["self","right"]
theorem sc_Reader_must:Zs N_Reader_must ["self","right"] (Zk s_Reader_must):=by trivial
abbrev V4:Stmt:=V1 (top 26) 3
abbrev N_Reader_next_long:List Str:=["self","most","n","unit","more","code"]
theorem Yz:Zs N_Reader_next_long ["self","most"] (Zk V4):=by trivial
abbrev Vh:Stmt:=V1 (top 26) 4
abbrev N_Reader_enter_room:List Str:=["self","around","size"]
theorem Vc:Zs N_Reader_enter_room ["self"] (Zk Vh):=by trivial
abbrev Vs:Stmt:=V1 (top 26) 5
abbrev N_Reader_leave_room:List Str:=["self","around"]
theorem sc_Reader_leave_room:Zs N_Reader_leave_room ["self","around"] (Zk Vs):=by trivial
abbrev s_unfolded:Stmt:=top 25
abbrev N_unfolded:List Str:=["n"]
theorem sc_unfolded:Zs N_unfolded ["n"] (Zk s_unfolded):=by trivial
abbrev s_next_sign:Stmt:=top 30
abbrev N_next_sign:List Str:=["reader","code"]
theorem sc_next_sign:Zs N_next_sign ["reader"] (Zk s_next_sign):=by trivial
abbrev s_next_letter:Stmt:=top 31
abbrev N_next_letter:List Str:=["reader","code"]
theorem sc_next_letter:Zs N_next_letter ["reader"] (Zk s_next_letter):=by trivial
abbrev s_next_text:Stmt:=top 29
abbrev N_next_text:List Str:=["reader","signs","place"]
theorem sc_next_text:Zs N_next_text ["reader"] (Zk s_next_text):=by trivial
abbrev s_next_number:Stmt:=top 33
abbrev N_next_number:List Str:=["reader","last","number"]
theorem sc_next_number:Zs N_next_number ["reader","last"] (Zk s_next_number):=by trivial
abbrev s_next_key:Stmt:=top 34
abbrev N_next_key:List Str:=["reader","last","many","key","place"]
theorem sc_next_key:Zs N_next_key ["reader","last"] (Zk s_next_key):=by trivial
abbrev s_next_label:Stmt:=top 32
abbrev N_next_label:List Str:=["reader","sort","last"]
theorem sc_next_label:Zs N_next_label ["reader","sort","last"] (Zk s_next_label):=by trivial
abbrev s_next_item:Stmt:=top 28
abbrev N_next_item:List Str:=["reader","deep","head","sort","number","parts","label","around","inner"]
theorem Ya:Zs N_next_item ["reader","deep"] (Zk s_next_item):=by trivial
abbrev V3:Stmt:=top 27
abbrev N_unpacked_between:List Str:=["file","begin","end","reader","item"]
theorem Vr:Zs N_unpacked_between ["file","begin","end"] (Zk V3):=by trivial
theorem atI_nat {α:Type} {xs:List α} {i:Nat} {x:α} (h:xs[i]? = some x):atI xs (i:Int) = some x:=by
 have hl:=(List.getElem?_eq_some_iff.mp h).1
 unfold atI ixN
 rw [if_pos (by omega),if_pos (by omega)]
 exact h
def Kp (r:Addr) (H H':Hp):Prop:=∀ x o,x ≠ r→H x = some o→H' x = some o
theorem Kp.refl {r:Addr} (H:Hp):Kp r H H:=fun _ _ _ h => h
theorem Kp.trans {r:Addr} {H H1 H2:Hp} (a:Kp r H H1) (b:Kp r H1 H2):Kp r H H2:=fun x o n h => b x o n (a x o n h)
theorem Kp.same {r:Addr} {H H1:Hp} (a:Zb H H1):Kp r H H1:=fun x o _ h => a x o h
def fsR (s:V) (a e:Nat):List (Str × V):=[("source",s),("at",.int a),("end",.int e)]
structure Rd (K:W.Frag) (C r sA:Addr) (bs:List Int) (H:Hp) (a e:Nat):Prop where
 ex:∃ dx,H r = some (.ins C dx (fsR (.ref sA) a e))∧(Ym K H sA (bv bs) ∨ Z9 K H sA (bv bs))
theorem Kp.up {K:W.Frag} {C r dx:Addr} {fs:List (Str × V)} {H H':Hp} (k:Kp r H H') (h:H r = some (.ins C dx fs)):Up K H H':=fun c xs q => by
 have ne:∀ u,H c = some u→(∀ C dx fs,u ≠ .ins C dx fs)→c ≠ r:=fun u e n z => by
  rw [z,h] at e
  cases e
  exact n _ _ _ rfl
 rcases q with (q | ⟨u,q⟩) | q
 ·exact .inl (.inl (k _ _ (ne _ q fun _ _ _ z => nomatch z) q))
 ·exact .inl (.inr ⟨u,k _ _ (ne _ q fun _ _ _ z => nomatch z) q⟩)
 ·exact .inr q
theorem Kp.upL {K:W.Frag} {C r dx:Addr} {fs:List (Str × V)} {H H':Hp} (k:Kp r H H') (h:H r = some (.ins C dx fs)) {c:Addr} {xs:List V} (q:Ym K H c xs):Ym K H' c xs:=by
 have ne:∀ u,H c = some u→(∀ C dx fs,u ≠ .ins C dx fs)→c ≠ r:=fun u e n z => by
  rw [z,h] at e
  cases e
  exact n _ _ _ rfl
 rcases q with (q | ⟨u,q⟩) | q
 ·exact .inl (.inl (k _ _ (ne _ q fun _ _ _ z => nomatch z) q))
 ·exact .inl (.inr ⟨u,k _ _ (ne _ q fun _ _ _ z => nomatch z) q⟩)
 ·exact .inr q
theorem Kp.sq {K:W.Frag} {C r dx sA:Addr} {fs:List (Str × V)} {H H':Hp} {xs:List V} (k:Kp r H H') (h:H r = some (.ins C dx fs)) (q:Ym K H sA xs ∨ Z9 K H sA xs):Ym K H' sA xs ∨ Z9 K H' sA xs:=by
 rcases q with q | q
 ·exact .inl (k.upL h q)
 ·exact .inr (k.up h _ _ q)
theorem Kp.put {r:Addr} {H H1:Hp} (k:Kp r H H1) (o:HO):Kp r H (Z4 H1 r o):=fun x u n h => by rw [Zh n]; exact k x u n h
theorem Rd.same {K:W.Frag} {C r sA:Addr} {bs:List Int} {H H':Hp} {a e:Nat} (d:Rd K C r sA bs H a e) (s:Zb H H'):Rd K C r sA bs H' a e:=by
 obtain ⟨dx,h,q⟩:=d.ex
 exact ⟨dx,s _ _ h,(Kp.same s).sq h q⟩
theorem Rd.up {K:W.Frag} {C r sA:Addr} {bs:List Int} {H H':Hp} {a e:Nat} (d:Rd K C r sA bs H a e) (k:Kp r H H'):Up K H H':=by
 obtain ⟨dx,h,q⟩:=d.ex
 exact k.up h
theorem Rd.keep {K:W.Frag} {C r sA:Addr} {bs:List Int} {H H':Hp} {a e a' e':Nat} (d:Rd K C r sA bs H a e) (k:Kp r H H') (h':∃ dx,H' r = some (.ins C dx (fsR (.ref sA) a' e'))):Rd K C r sA bs H' a' e':=by
 obtain ⟨dx,h,q⟩:=d.ex
 obtain ⟨dx',h'⟩:=h'
 exact ⟨dx',h',k.sq h q⟩
theorem Rd.ne {K:W.Frag} {C r sA:Addr} {bs:List Int} {H:Hp} {a e:Nat} (d:Rd K C r sA bs H a e) {p:Addr} {xs:List V} (h:H p = some (.lst xs)):p ≠ r:=fun z => by
 obtain ⟨dx,h',q⟩:=d.ex
 rw [z,h'] at h
 cases h
structure RdOk (K:W.Frag) (C:Addr):Prop where
 cl:Cls K C
 source:NoAttr K C "source"
 at':NoAttr K C "at"
 end':NoAttr K C "end"
def spInit (K:W.Frag) (C:Addr):Sp:=fun vs H Q _ => ∃ r dx x a e,vs = [.ref r,x,.int a,.int e]∧H r = some (.ins C dx [])∧Q .non (Z4 (Z4 (Z4 H r (.ins C dx [("source",x)])) r (.ins C dx [("source",x),("at",.int a)])) r (.ins C dx [("source",x),("at",.int a),("end",.int e)]))
def spNByte (K:W.Frag) (C:Addr):Sp:=fun vs H Q _ => ∃ r sA bs a e b,vs = [.ref r]∧Rd K C r sA bs H a e∧a < e∧bs[a]? = some b∧∀ H',Kp r H H'→Rd K C r sA bs H' (a + 1) e→Q (.int b) H'
def spMust:Sp:=fun vs H Q _ => ∃ r,vs = [.ref r,.bl true]∧Q .non H
def Pre (bs:List Int) (a e:Nat) (xs:List Int):Prop:=(∃ Vz,bs.drop a = xs ++ Vz)∧a + xs.length ≤ e
def spNLong (K:W.Frag) (C:Addr):Sp:=fun vs H Q _ => ∃ r sA bs a e n m,vs = [.ref r,.int m]∧Rd K C r sA bs H a e∧Pre bs a e (Lg n)∧0 ≤ n∧n ≤ m∧m ≤ 2000000000000000000∧∀ H',Kp r H H'→Rd K C r sA bs H' (a + (Lg n).length) e→Q (.int n) H'
def spEnter (K:W.Frag) (C:Addr):Sp:=fun vs H Q _ => ∃ r sA bs a e n,vs = [.ref r]∧Rd K C r sA bs H a e∧Pre bs a e (Lg (n:Nat))∧n ≤ 1000000∧a + (Lg (n:Nat)).length + n ≤ e∧∀ H',Kp r H H'→Rd K C r sA bs H' (a + (Lg n).length) (a + (Lg n).length + n)→Q (.int e) H'
def spLeave (K:W.Frag) (C:Addr):Sp:=fun vs H Q _ => ∃ r sA bs a e e',vs = [.ref r,.int ((e':Nat):Int)]∧Rd K C r sA bs H a e∧∀ H',Kp r H H'→Rd K C r sA bs H' a e'→Q .non H'
theorem Pre.cons {bs:List Int} {a e:Nat} {x:Int} {xs:List Int} (p:Pre bs a e (x :: xs)):bs[a]? = some x∧a < e∧Pre bs (a + 1) e xs:=by
 obtain ⟨⟨Vz,h⟩,l⟩:=p
 rw [List.length_cons] at l
 refine ⟨?_,by omega,⟨Vz, ?_⟩,by omega⟩
 ·have:(bs.drop a)[0]? = some x:=by rw [h]; rfl
  rwa [List.getElem?_drop] at this
 ·rw [← List.drop_drop,h]; rfl
theorem Pre.app {bs:List Int} {a e:Nat} {xs ys:List Int} (p:Pre bs a e (xs ++ ys)):Pre bs a e xs∧Pre bs (a + xs.length) e ys:=by
 obtain ⟨⟨Vz,h⟩,l⟩:=p
 rw [List.length_append] at l
 refine ⟨⟨⟨ys ++ Vz,by rw [h,List.append_assoc]⟩,by omega⟩,⟨Vz, ?_⟩,by omega⟩
 rw [← List.drop_drop,h,List.append_assoc,List.drop_left]
theorem Pre.narrow {bs:List Int} {a e e':Nat} {xs:List Int} (p:Pre bs a e xs) (h:a + xs.length ≤ e'):Pre bs a e' xs:=⟨p.1,h⟩
section
variable {P:Program} {w:World} {K:W.Frag} {mg:Str→Option Value} {base:Heap} {f:Addr} {fd:FuncData} {C:Addr}
theorem ok_init (F:Uj K "__init__" "Reader.__init__" s_Reader_init f fd) (c:RdOk K C):Yy P w K mg base Um 1 f fd ["self","source","at","end"] (spInit K C):=by
 refine F.ok sc_Reader_init (fun vs H Q E h => ?_) (fun cdv A outer s H vs Q E hr h => ?_)
 ·obtain ⟨r,dx,x,a,e,rfl,_⟩:=h
  rfl
 obtain ⟨r,dx,x,a,e,rfl,hr0,q⟩:=h
 refine ⟨_,(@Zj _ _ _ _ _ (@ps_fld _ _ _ _ _ _ _ _ (pv 0) (pv 1) rfl) (@Zj _ _ _ _ _ (@ps_fld _ _ _ _ _ _ _ _ (pv 0) (pv 2) rfl) (@Zv _ _ _ (@ps_fld _ _ _ _ _ _ _ _ (pv 0) (pv 3) rfl)))), ?_⟩
 refine ⟨_,rfl,_,rfl,r,C,dx,[],rfl,hr0,c.cl,c.source,(by decide), ?_⟩
 refine ⟨_,rfl,_,rfl,r,C,dx,_,rfl,Zq,c.cl,c.at',(by show 1 < 1000; decide), ?_⟩
 refine ⟨_,rfl,_,rfl,r,C,dx,_,rfl,Zq,c.cl,c.end',(by show 2 < 1000; decide), ?_⟩
 exact q
theorem ok_nbyte (F:Uj K "next_byte" "Reader.next_byte" V5 f fd) (c:RdOk K C):Yy P w K mg base Um 1 f fd ["self"] (spNByte K C):=by
 refine F.ok sc_Reader_next_byte (fun vs H Q E h => ?_) (fun cdv A outer s H vs Q E hr h => ?_)
 ·obtain ⟨r,sA,bs,a,e,b,rfl,_⟩:=h
  rfl
 obtain ⟨r,sA,bs,a,e,b,rfl,hd,hl,hb,q⟩:=h
 obtain ⟨dx,h,hs⟩:=hd.ex
 refine ⟨_,(@Zj _ _ _ _ _ (@Z8 _ _ _ _ _ _ _ _ (@Zm _ _ _ _ _ _ _ _ Yf (@pe_fld _ _ _ _ _ (pv 0) rfl) (@pe_fld _ _ _ _ _ (pv 0) rfl) (Zt _)) (@pss_never _ _) Za) (@Zj _ _ _ _ _ (@ps_fld _ _ _ _ _ _ _ _ (pv 0) (@Zf _ _ _ _ _ _ _ _ Z1 (@pe_fld _ _ _ _ _ (pv 0) rfl) Zx) rfl) (@Zv _ _ _ (@Zd _ _ _ _ (@Zr _ _ _ _ _ _ _ ix_seq (@pe_fld _ _ _ _ _ (pv 0) rfl) (@Zf _ _ _ _ _ _ _ _ Ug (@pe_fld _ _ _ _ _ (pv 0) rfl) Zx) (fun _ _ => rfl)))))), ?_⟩
 refine ⟨_,rfl,r,C,dx,_,_,rfl,h,c.cl,c.at',rfl, ?_⟩
 refine ⟨_,rfl,r,C,dx,_,_,rfl,h,c.cl,c.end',rfl,rfl,_,rfl,Yq ?_ ?_⟩
 ·rw [dec_int]
  exact beq_false_of_ne (by omega)
 refine ⟨_,rfl,r,C,dx,_,_,rfl,h,c.cl,c.at',rfl,_,_,rfl,rfl, ?_⟩
 refine ⟨_,rfl,r,C,dx,_,rfl,h,c.cl,c.at',(by show 3 < 1000; decide), ?_⟩
 have k1:Kp r H (Z4 H r (.ins C dx (fsR (.ref sA) (a + 1) e))):=(Kp.refl H).put _
 have hs1:=k1.sq h hs
 refine ⟨_,rfl,r,C,dx,_,_,rfl,Zq,c.cl,c.source,rfl, ?_⟩
 refine ⟨_,rfl,r,C,dx,_,_,rfl,Zq,c.cl,c.at',rfl,_,_,rfl,rfl, ?_⟩
 have at1:atI (bv bs) ((a:Int) + 1 - 1) = some (.int b):=by
  rw [show (a:Int) + 1 - 1 = (a:Int) by omega]
  exact atI_nat (by rw [bv,List.getElem?_map,hb]; rfl)
 have fin:=q _ k1 ⟨dx,Zq,hs1⟩
 rcases hs1 with hs1 | hs1
 ·exact .inl ⟨sA,_,_,_,rfl,rfl,hs1,at1,fin⟩
 ·exact .inr (.inl ⟨sA,_,_,_,rfl,rfl,hs1,at1,fin⟩)
theorem ok_must (F:Uj K "must" "Reader.must" s_Reader_must f fd):Yy P w K mg base Um 1 f fd ["self","right"] spMust:=by
 refine F.ok sc_Reader_must (fun vs H Q E h => ?_) (fun cdv A outer s H vs Q E hr h => ?_)
 ·obtain ⟨r,rfl,_⟩:=h
  rfl
 obtain ⟨r,rfl,q⟩:=h
 refine ⟨_,(@Zv _ _ _ (@Z8 _ _ _ _ _ _ _ _ (@pt_not _ _ _ _ (@pt_val _ _ _ (pv 1) (by intro _; rfl))) (@pss_never _ _) Za)), ?_⟩
 exact ⟨_,rfl,_,rfl,Yq rfl q⟩
end
def spUnf:Sp:=fun vs H Q _ => ∃ k:Int,vs = [.int (V8 k)]∧Q (.int k) H
def ch (c:Nat):Str:=⟨#[c]⟩
def spSign (K:W.Frag) (C:Addr) (p:Nat→Prop):Sp:=fun vs H Q _ => ∃ r sA bs a e c,vs = [.ref r]∧Rd K C r sA bs H a e∧a < e∧bs[a]? = some ((c:Nat):Int)∧p c∧∀ H',Kp r H H'→Rd K C r sA bs H' (a + 1) e→Q (.str (ch c)) H'
def spNText (K:W.Frag) (C:Addr):Sp:=fun vs H Q _ => ∃ r sA bs a e x,vs = [.ref r]∧Rd K C r sA bs H a e∧Pre bs a e (sgB x)∧textOk x∧∀ H',Kp r H H'→Rd K C r sA bs H' (a + (sgB x).length) e→Q (.str x) H'
def spNNum (K:W.Frag) (C:Addr):Sp:=fun vs H Q _ => ∃ r sA bs a e n m,vs = [.ref r,.int m]∧Rd K C r sA bs H a e∧Pre bs a e (Lg n)∧0 ≤ n∧n ≤ 999∧m < n∧∀ H',Kp r H H'→Rd K C r sA bs H' (a + (Lg n).length) e→Q (.int n) H'
def spNKey (K:W.Frag) (C:Addr):Sp:=fun vs H Q _ => ∃ r sA bs a e x y,vs = [.ref r,.str y]∧Rd K C r sA bs H a e∧Pre bs a e (sgB x)∧V6 x∧ltS y x∧∀ H',Kp r H H'→Rd K C r sA bs H' (a + (sgB x).length) e→Q (.str x) H'
def Below:V→Lb→Prop
 | _,.no => True
 | v,.key x => ∃ y,v = .str y∧ltS y x
 | v,.num n => ∃ m,v = .int m∧m < n
def spNLabel (K:W.Frag) (C:Addr):Sp:=fun vs H Q _ => ∃ r sA bs a e s l v,vs = [.ref r,.str (srt s),v]∧Rd K C r sA bs H a e∧Pre bs a e (lbB l)∧LbS s l∧Below v l∧∀ H',Kp r H H'→Rd K C r sA bs H' (a + (lbB l).length) e→Q (lbV l) H'
theorem sgn_at:∀ c:Nat,c < 127→gdC c→(if c < 37 then (SGN.cps.toList)[c - 32]? else (SGN.cps.toList)[c - 33]?) = some c:=by
 intro c h g
 have:∀ c:Fin 127,(32 ≤ c.1∧c.1 ≤ 126∧c.1 ≠ 37)→(if c.1 < 37 then (SGN.cps.toList)[c.1 - 32]? else (SGN.cps.toList)[c.1 - 33]?) = some c.1:=by decide +kernel
 exact this ⟨c,h⟩ g
theorem let_at:∀ c:Nat,97 ≤ c∧c ≤ 122→(LET.cps.toList)[c - 97]? = some c:=by
 intro c h
 have:∀ c:Fin 123,(97 ≤ c.1∧c.1 ≤ 122)→(LET.cps.toList)[c.1 - 97]? = some c.1:=by decide +kernel
 exact this ⟨c,by omega⟩ h
theorem bls {x:V} {b c:Bool} (h:b = c):[x,V.bl b] = [x,.bl c]:=by rw [h]
section
variable {P:Program} {w:World} {K:W.Frag} {mg:Str→Option Value} {base:Heap} {f:Addr} {fd:FuncData} {C:Addr}
theorem ok_nlong (F:Uj K "next_long" "Reader.next_long" V4 f fd) (co:RdOk K C) (g_Reader_next_byte:MFn P w K mg base 1 C "next_byte" ["self"] (spNByte K C)) (g_Reader_must:MFn P w K mg base 1 C "must" ["self","right"] spMust) :
  Yy P w K mg base Um 2 f fd ["self","most"] (spNLong K C):=by
 refine F.ok Yz (fun vs H Q E h => ?_) (fun cdv A outer s H vs Q E hr h => ?_)
 ·obtain ⟨r,sA,bs,a,e,n,m,rfl,_⟩:=h
  rfl
 obtain ⟨r,sA,bs,a,e,n,m,rfl,hd,hp,h0,h1,h2,q⟩:=h
 refine ⟨_,(@Zj _ _ _ _ _ (@Zy _ 2 _ _ _ _ _ Yz.nd rfl (by trivial) Zx rfl (by trivial)) (@Zj _ _ _ _ _ (@Zy _ 3 _ _ _ _ _ Yz.nd rfl (by trivial) Zx rfl (by trivial)) (@Zj _ _ _ _ _ (@Zy _ 4 _ _ _ _ _ Yz.nd rfl (by trivial) pe_bl rfl (by trivial)) (@Zj _ _ _ _ _ (@ps_while _ _ _ _ _ _ PassesOwn.never (@pt_val _ _ _ (pv 4) (by intro _; rfl)) (@Zj _ _ _ _ _ (@Zy _ 5 _ _ _ _ _ Yz.nd rfl (by trivial) (@pe_methF0 _ _ _ _ _ _ _ _ _ _ _ g_Reader_next_byte hr.m (pv 0) rfl) rfl (by trivial)) (@Zj _ _ _ _ _ (@Zy _ 2 _ _ _ _ _ Yz.nd rfl (by trivial) (@Zf _ _ _ _ _ _ _ _ Z1 (pv 2) (@Zf _ _ _ _ _ _ _ _ Vp (@Zf _ _ _ _ _ _ _ _ Vu (pv 5) Zx) (pv 3))) rfl (by trivial)) (@Zj _ _ _ _ _ (@Yw _ _ _ _ (@Y4 _ _ _ _ _ _ _ _ _ _ _ _ _ _ g_Reader_must hr.m (pv 0) (Zg (@pe_and _ _ _ _ _ _ _ (@Vb _ _ _ _ _ _ _ _ op_le (pv 2) (pv 1) (Zt _)) (@pe_one _ _ _ _ _ (@pe_or _ _ _ _ _ _ _ (@Vb _ _ _ _ _ _ _ _ op_gt (pv 5) Zx (Zt _)) (@pe_one _ _ _ _ _ (@Vb _ _ _ _ _ _ _ _ Yf (pv 3) Zx (Zt _)))))) Zz rfl) rfl rfl rfl) rfl) (@Zj _ _ _ _ _ (@Zy _ 4 _ _ _ _ _ Yz.nd rfl (by trivial) (@Vb _ _ _ _ _ _ _ _ op_ge (pv 5) Zx (Zt _)) rfl (by trivial)) (@Zv _ _ _ (@Z8 _ _ _ _ _ _ _ _ (@Zm _ _ _ _ _ _ _ _ op_le (pv 3) (pv 1) (Zt _)) (@Zv _ _ _ (@Zy _ 3 _ _ _ _ _ Yz.nd rfl (by trivial) (@Zf _ _ _ _ _ _ _ _ Vp (pv 3) Zx) rfl (by trivial))) Za))))))) (@Zv _ _ _ (@Zd _ _ _ _ (pv 2))))))), ?_⟩
 refine ⟨fun μ σ H1 => (∃ p k acc u x o,μ = e - p∧σ = [some (.ref r),some (.int m),some (.int acc),some (.int u),some (.bl true),o]∧p + (Lf k x).length = a + (Lg n).length∧Pre bs p e (Lf k x)∧acc + x * u = n∧1 ≤ u∧(1 ≤ x ∨ u = 1)∧0 ≤ x∧0 ≤ acc∧x < 128 ^ (k + 1)∧Rd K C r sA bs H1 p e∧Kp r H H1)
  ∨ (∃ u o,μ = e - (a + (Lg n).length)∧σ = [some (.ref r),some (.int m),some (.int n),u,some (.bl false),o]∧Rd K C r sA bs H1 (a + (Lg n).length) e∧Kp r H H1),⟨e - a,.inl ⟨a,19,0,1,n,_,rfl,rfl,rfl,hp,by omega,by omega,.inr rfl,h0,by omega,lt20 (by omega),hd,Kp.refl H⟩⟩, ?_⟩
 rintro μ σ H1 (⟨p,k,acc,u,x,o,rfl,rfl,el,pr,es,u1,xu,x0,a0,xk,d1,k1⟩ | ⟨u,o,rfl,rfl,d1,k1⟩)
 ·refine ⟨_,rfl,_,rfl,Yp rfl ⟨fun σ' H' => ∃ m',m' < e - p∧_,fun σ' H' h => h, ?_⟩⟩
  obtain ⟨dx,hh,hs⟩:=d1.ex
  by_cases c:128 ≤ x
  ·obtain ⟨j,rfl⟩:=more c xk
   rw [Lf_big j c] at pr el
   obtain ⟨gb,lt,pr'⟩:=pr.cons
   rw [List.length_cons] at el
   have um:u ≤ m:=by
    have h5:1 * u ≤ x * u:=Int.mul_le_mul_of_nonneg_right (by omega) (by omega)
    omega
   have e128:x * u = (x % 128) * u + (x / 128) * (u * 128):=by
    have h6:x = x % 128 + 128 * (x / 128):=by omega
    calc x * u = (x % 128 + 128 * (x / 128)) * u:=by rw [← h6]
     _ = (x % 128) * u + 128 * (x / 128) * u:=Int.add_mul _ _ _
     _ = (x % 128) * u + (x / 128) * (u * 128):=by rw [Int.mul_comm 128 (x / 128),Int.mul_assoc,Int.mul_comm 128 u]
   have nn:0 ≤ (x / 128) * (u * 128):=Int.mul_nonneg (by omega) (by omega)
   have nn2:0 ≤ (x % 128) * u:=Int.mul_nonneg (by omega) (by omega)
   refine ⟨_,rfl,r,dx,_,rfl,hh,rfl,r,sA,bs,p,e,_,rfl,d1,lt,gb,fun H2 k2 d2 => ?_⟩
   obtain ⟨dx2,hh2,hs2⟩:=d2.ex
   have em:(x % 128 + 128) % 128 = x % 128:=by omega
   refine ⟨_,rfl,_,rfl,_,_,rfl,rfl,(by show (0:Int) < 128; decide),_,rfl,_,_,rfl,rfl,.inl ⟨by show _ < (x % 128 + 128) % 128; omega,by show (x % 128 + 128) % 128 < _; omega⟩,_,_,rfl,rfl, ?_⟩
   refine ⟨_,rfl,r,dx2,_,rfl,hh2,rfl,_,rfl,_,rfl,_,_,rfl,rfl,_,rfl,Yp (decide_eq_true ?_) ⟨_,rfl,_,_,rfl,rfl,_,rfl,Yp (decide_eq_true ?_) ⟨r,rfl, ?_⟩⟩⟩
   ·show acc + (x % 128 + 128) % 128 * u ≤ m
    rw [em]; omega
   ·show (0:Int) < x % 128 + 128
    omega
   refine ⟨_,rfl,_,_,rfl,rfl, ?_⟩
   refine ⟨_,rfl,_,rfl,_,_,rfl,rfl,_,rfl,Yp (decide_eq_true um) ⟨_,rfl,_,_,rfl,rfl,.inr ⟨by decide,by decide⟩, ?_⟩⟩
   refine ⟨e - (p + 1),by omega,.inl ⟨p + 1,j,acc + (x % 128) * u,u * 128,x / 128,some (.int (x % 128 + 128)),rfl, ?_,by omega,pr',by omega,by omega,.inl (by omega),by omega,by omega,div_lt xk,d2,k1.trans k2⟩⟩
   show [_,_,some (V.int (acc + (x % 128 + 128) % 128 * u)),_,some (V.bl (decide (128 ≤ x % 128 + 128))),_] = _
   rw [em,decide_eq_true (show 128 ≤ x % 128 + 128 by omega)]
  ·have c':x < 128:=by omega
   rw [Ve k c'] at pr el
   obtain ⟨gb,lt,pr'⟩:=pr.cons
   rw [List.length_singleton] at el
   refine ⟨_,rfl,r,dx,_,rfl,hh,rfl,r,sA,bs,p,e,_,rfl,d1,lt,gb,fun H2 k2 d2 => ?_⟩
   obtain ⟨dx2,hh2,hs2⟩:=d2.ex
   have em:x % 128 = x:=by omega
   refine ⟨_,rfl,_,rfl,_,_,rfl,rfl,(by show (0:Int) < 128; decide),_,rfl,_,_,rfl,rfl,.inl ⟨by show _ < x % 128; omega,by show x % 128 < _; omega⟩,_,_,rfl,rfl, ?_⟩
   refine ⟨_,rfl,r,dx2,_,rfl,hh2,rfl,_,rfl,_,rfl,_,_,rfl,rfl,_,rfl,Yp (decide_eq_true ?_) ⟨_,rfl,_,_,rfl,rfl,_,rfl, ?_⟩⟩
   ·show acc + x % 128 * u ≤ m
    rw [em]; omega
   have en:acc + x % 128 * u = n:=by rw [em]; exact es
   have dn:decide (128 ≤ x) = false:=decide_eq_false (by omega)
   have fe:∀ u',([some (.ref r),some (.int m),some (.int (acc + x % 128 * u)),u',some (.bl (decide (128 ≤ x))),some (.int x)]:L2.St) = [some (.ref r),some (.int m),some (.int n),u',some (.bl false),some (.int x)]:=fun u' => by rw [en,dn]
   refine ite2 (fun _ => ⟨r,rfl, ?_⟩) (fun z => ⟨_,rfl,rfl,r,bls ?_, ?_⟩)
   ·refine ⟨_,rfl,_,_,rfl,rfl, ?_⟩
    refine ⟨_,rfl,_,rfl,_,_,rfl,rfl,_,rfl,ite2 (fun _ => ⟨_,rfl,_,_,rfl,rfl,.inr ⟨by decide,by decide⟩, ?_⟩) (fun _ => ?_)⟩
    ·exact ⟨e - (p + 1),by omega,.inr ⟨_,some (.int x),by rw [el],fe _,by rw [← el]; exact d2,k1.trans k2⟩⟩
    ·exact ⟨e - (p + 1),by omega,.inr ⟨_,some (.int x),by rw [el],fe _,by rw [← el]; exact d2,k1.trans k2⟩⟩
   ·have hx:¬ 0 < x:=fun h => z (decide_eq_true h)
    rw [dec_int]
    have:u = 1:=by rcases xu with h | h <;> omega
    rw [this]; rfl
   ·refine ⟨_,rfl,_,_,rfl,rfl, ?_⟩
    refine ⟨_,rfl,_,rfl,_,_,rfl,rfl,_,rfl,ite2 (fun _ => ⟨_,rfl,_,_,rfl,rfl,.inr ⟨by decide,by decide⟩, ?_⟩) (fun _ => ?_)⟩
    ·exact ⟨e - (p + 1),by omega,.inr ⟨_,some (.int x),by rw [el],fe _,by rw [← el]; exact d2,k1.trans k2⟩⟩
    ·exact ⟨e - (p + 1),by omega,.inr ⟨_,some (.int x),by rw [el],fe _,by rw [← el]; exact d2,k1.trans k2⟩⟩
 ·exact ⟨_,rfl,_,rfl,Yq rfl ⟨_,rfl,q _ k1 d1⟩⟩
theorem ok_enter (F:Uj K "enter_room" "Reader.enter_room" Vh f fd) (co:RdOk K C) (c:Cn mg) (g_Reader_next_long:MFn P w K mg base 2 C "next_long" ["self","most"] (spNLong K C)) (g_Reader_must:MFn P w K mg base 1 C "must" ["self","right"] spMust) :
  Yy P w K mg base Um 3 f fd ["self"] (spEnter K C):=by
 refine F.ok Vc (fun vs H Q E h => ?_) (fun cdv A outer s H vs Q E hr h => ?_)
 ·obtain ⟨r,sA,bs,a,e,n,rfl,_⟩:=h
  rfl
 obtain ⟨r,sA,bs,a,e,n,rfl,hd,hp,hn,hl,q⟩:=h
 refine ⟨_,(@Zj _ _ _ _ _ (@Zy _ 1 _ _ _ _ _ Vc.nd rfl (by trivial) (@pe_fld _ _ _ _ _ (pv 0) rfl) rfl (by trivial)) (@Zj _ _ _ _ _ (@Zy _ 2 _ _ _ _ _ Vc.nd rfl (by trivial) (@Y4 _ _ _ _ _ _ _ _ _ _ _ _ _ _ g_Reader_next_long hr.m (pv 0) (Zg (@pe_globN _ _ _ _ rfl c.GREATEST_SIZE (by decide)) Zz rfl) rfl rfl rfl) rfl (by trivial)) (@Zj _ _ _ _ _ (@Yw _ _ _ _ (@Y4 _ _ _ _ _ _ _ _ _ _ _ _ _ _ g_Reader_must hr.m (pv 0) (Zg (@Vb _ _ _ _ _ _ _ _ op_le (pv 2) (@Zf _ _ _ _ _ _ _ _ Ug (pv 1) (@pe_fld _ _ _ _ _ (pv 0) rfl)) (Zt _)) Zz rfl) rfl rfl rfl) rfl) (@Zj _ _ _ _ _ (@ps_fld _ _ _ _ _ _ _ _ (pv 0) (@Zf _ _ _ _ _ _ _ _ Z1 (@pe_fld _ _ _ _ _ (pv 0) rfl) (pv 2)) rfl) (@Zv _ _ _ (@Zd _ _ _ _ (pv 1))))))), ?_⟩
 obtain ⟨dx,h,hs⟩:=hd.ex
 refine ⟨_,rfl,r,C,dx,_,_,rfl,h,co.cl,co.end',rfl, ?_⟩
 refine ⟨_,rfl,r,dx,_,rfl,h,rfl,r,sA,bs,a,e,n,_,rfl,hd,hp,by omega,by omega,by omega,fun H1 k1 d1 => ?_⟩
 obtain ⟨dx1,h1,hs1⟩:=d1.ex
 refine ⟨_,rfl,r,dx1,_,rfl,h1,rfl,_,rfl,_,rfl,_,rfl,r,C,dx1,_,_,rfl,h1,co.cl,co.at',rfl,_,_,rfl,rfl,_,_,rfl,rfl,r,bls (decide_eq_true ?_), ?_⟩
 ·show (n:Int) ≤ (e:Int) - ((a + (Lg n).length:Nat):Int)
  omega
 refine ⟨_,rfl,r,C,dx1,_,_,rfl,h1,co.cl,co.at',rfl,_,rfl,_,_,rfl,rfl,_,rfl,r,C,dx1,_,rfl,h1,co.cl,co.end',(by show 3 < 1000; decide), ?_⟩
 have k2:Kp r H1 (Z4 H1 r (.ins C dx1 (fsR (.ref sA) (a + (Lg n).length) (a + (Lg n).length + n)))):=(Kp.refl H1).put _
 exact ⟨_,rfl,q _ (k1.trans k2) ⟨dx1,Zq,k2.sq h1 hs1⟩⟩
theorem ok_leave (F:Uj K "leave_room" "Reader.leave_room" Vs f fd) (co:RdOk K C):Yy P w K mg base Um 1 f fd ["self","around"] (spLeave K C):=by
 refine F.ok sc_Reader_leave_room (fun vs H Q E h => ?_) (fun cdv A outer s H vs Q E hr h => ?_)
 ·obtain ⟨r,sA,bs,a,e,e',rfl,_⟩:=h
  rfl
 obtain ⟨r,sA,bs,a,e,e',rfl,hd,q⟩:=h
 refine ⟨_,(@Zv _ _ _ (@ps_fld _ _ _ _ _ _ _ _ (pv 0) (pv 1) rfl)), ?_⟩
 obtain ⟨dx,h,hs⟩:=hd.ex
 refine ⟨_,rfl,_,rfl,r,C,dx,_,rfl,h,co.cl,co.end',(by show 3 < 1000; decide), ?_⟩
 have k2:Kp r H (Z4 H r (.ins C dx (fsR (.ref sA) a e'))):=(Kp.refl H).put _
 exact q _ k2 ⟨dx,Zq,k2.sq h hs⟩
theorem ok_unfolded (F:Uj K "unfolded" "unfolded" s_unfolded f fd):Yy P w K mg base Um 1 f fd ["n"] spUnf:=by
 refine F.ok sc_unfolded (fun vs H Q E h => ?_) (fun cdv A outer s H vs Q E hr h => ?_)
 ·obtain ⟨n,rfl,_⟩:=h
  rfl
 obtain ⟨k,rfl,q⟩:=h
 refine ⟨_,(@Zv _ _ _ (@Zd _ _ _ _ (@pe_ifExp _ _ _ _ _ _ _ _ (@Zm _ _ _ _ _ _ _ _ Yf (@Zf _ _ _ _ _ _ _ _ Vu (pv 0) Zx) Zx (Zt _)) (@Zf _ _ _ _ _ _ _ _ op_fdiv (pv 0) Zx) (@Zf _ _ _ _ _ _ _ _ op_fdiv (@pe_un _ _ _ _ _ _ un_neg (@Zf _ _ _ _ _ _ _ _ Z1 (pv 0) Zx)) Zx)))), ?_⟩
 refine ⟨_,rfl,_,_,rfl,rfl,(by show (0:Int) < 2; decide),rfl,_,rfl, ?_⟩
 by_cases hk:0 ≤ k
 ·have e:V8 k = 2 * k:=by unfold V8; rw [if_pos hk]
  rw [e]
  refine Yp ?_ ⟨_,rfl,_,_,rfl,rfl,⟨by decide,by decide⟩, ?_⟩
  ·rw [dec_int]; simp
  ·have e2:2 * k / 2 = k:=by omega
   show Q (.int (2 * k / 2)) H
   rw [e2]; exact q
 ·have e:V8 k = -2 * k - 1:=by unfold V8; rw [if_neg hk]
  rw [e]
  refine Yq ?_ ⟨_,rfl,_,_,rfl,rfl,_,rfl,_,_,rfl,rfl,⟨by decide,by decide⟩, ?_⟩
  ·rw [dec_int]; exact beq_false_of_ne (by omega)
  ·have e2:-(-2 * k - 1 + 1) / 2 = k:=by omega
   show Q (.int (-(-2 * k - 1 + 1) / 2)) H
   rw [e2]; exact q
end
def lowC (c:Nat):Prop:=97 ≤ c∧c ≤ 122
theorem SGN_len:SGN.length ≤ sizeLine:=Nat.le_trans (show SGN.length ≤ 1000 by decide +kernel) (by decide)
theorem LET_len:LET.length ≤ sizeLine:=Nat.le_trans (show LET.length ≤ 1000 by decide +kernel) (by decide)
theorem codes_get {x:Str} {i c:Nat} (h:x.cps.toList[i]? = some c):(Vo x)[i]? = some (c:Int):=by
 unfold Vo
 rw [List.getElem?_map,h]; rfl
theorem Pre.get {bs:List Int} {a e i:Nat} {xs:List Int} {b:Int} (p:Pre bs a e xs) (h:xs[i]? = some b):bs[a + i]? = some b∧a + i < e:=by
 obtain ⟨⟨Vz,q⟩,l⟩:=p
 have hi:=(List.getElem?_eq_some_iff.mp h).1
 refine ⟨?_,by omega⟩
 have:(bs.drop a)[i]? = some b:=by rw [q,List.getElem?_append_left hi]; exact h
 rwa [List.getElem?_drop] at this
section
variable {P:Program} {w:World} {K:W.Frag} {mg:Str→Option Value} {base:Heap} {f:Addr} {fd:FuncData} {C:Addr}
theorem ok_next_sign (F:Uj K "next_sign" "next_sign" s_next_sign f fd) (c:Cn mg) (g_Reader_next_byte:MFn P w K mg base 1 C "next_byte" ["self"] (spNByte K C)) (g_Reader_must:MFn P w K mg base 1 C "must" ["self","right"] spMust) :
  Yy P w K mg base Um 2 f fd ["reader"] (spSign K C gdC):=by
 refine F.ok sc_next_sign (fun vs H Q E h => ?_) (fun cdv A outer s H vs Q E hr h => ?_)
 ·obtain ⟨r,sA,bs,a,e,n,rfl,_⟩:=h
  rfl
 obtain ⟨r,sA,bs,a,e,b,rfl,hd,hl,hb,g,q⟩:=h
 refine ⟨_,(@Zj _ _ _ _ _ (@Zy _ 1 _ _ _ _ _ sc_next_sign.nd rfl (by trivial) (@pe_methF0 _ _ _ _ _ _ _ _ _ _ _ g_Reader_next_byte hr.m (pv 0) rfl) rfl (by trivial)) (@Zj _ _ _ _ _ (@Yw _ _ _ _ (@Y4 _ _ _ _ _ _ _ _ _ _ _ _ _ _ g_Reader_must hr.m (pv 0) (Zg (@pe_and _ _ _ _ _ _ _ (@pe_chain _ _ _ _ _ _ _ _ _ _ _ _ op_le op_le Zx (pv 1) Zx (by trivial)) (@pe_one _ _ _ _ _ (@Vb _ _ _ _ _ _ _ _ op_ne (pv 1) Zx (Zt _)))) Zz rfl) rfl rfl rfl) rfl) (@Zv _ _ _ (@Zd _ _ _ _ (@pe_ifExp _ _ _ _ _ _ _ _ (@Zm _ _ _ _ _ _ _ _ op_lt (pv 1) Zx (Zt _)) (@Zr _ _ _ _ _ _ _ ix_str (@pe_globS _ _ _ _ rfl c.SIGNS (by decide)) (@Zf _ _ _ _ _ _ _ _ Ug (pv 1) Zx) (fun _ _ => rfl)) (@Zr _ _ _ _ _ _ _ ix_str (@pe_globS _ _ _ _ rfl c.SIGNS (by decide)) (@Zf _ _ _ _ _ _ _ _ Ug (pv 1) Zx) (fun _ _ => rfl))))))), ?_⟩
 obtain ⟨dx,h,hs⟩:=hd.ex
 have sa:=sgn_at b (by have:=g.2.1; omega) g
 obtain ⟨g1,g2,g3⟩:=g
 refine ⟨_,rfl,r,dx,_,rfl,h,rfl,r,sA,bs,a,e,_,rfl,hd,hl,hb,fun H1 k1 d1 => ?_⟩
 obtain ⟨dx1,h1,hs1⟩:=d1.ex
 refine ⟨_,rfl,r,dx1,_,rfl,h1,rfl,_,rfl,_,_,rfl,rfl,_,rfl,Yp (decide_eq_true ?_) ⟨_,_,rfl,rfl,_,rfl,Yp (decide_eq_true ?_) ⟨_,rfl,rfl,r,bls ?_, ?_⟩⟩⟩
 ·show (32:Int) ≤ (b:Int); omega
 ·show (b:Int) ≤ 126; omega
 ·rw [dec_int,beq_false_of_ne (by omega)]; rfl
 have fin:=q H1 k1 d1
 refine ⟨_,rfl,_,_,rfl,rfl,_,rfl, ?_⟩
 by_cases hc:b < 37
 ·rw [if_pos hc] at sa
  refine Yp (decide_eq_true (show (b:Int) < 37 by omega)) ⟨_,rfl,_,_,rfl,rfl,SGN,_,b,rfl,rfl,SGN_len, ?_,fin⟩
  rw [show ((b:Int) - 32) = ((b - 32:Nat):Int) by omega]
  exact atI_nat sa
 ·rw [if_neg hc] at sa
  refine Yq (decide_eq_false (show ¬ (b:Int) < 37 by omega)) ⟨_,rfl,_,_,rfl,rfl,SGN,_,b,rfl,rfl,SGN_len, ?_,fin⟩
  rw [show ((b:Int) - 33) = ((b - 33:Nat):Int) by omega]
  exact atI_nat sa
theorem ok_next_letter (F:Uj K "next_letter" "next_letter" s_next_letter f fd) (c:Cn mg) (g_Reader_next_byte:MFn P w K mg base 1 C "next_byte" ["self"] (spNByte K C)) (g_Reader_must:MFn P w K mg base 1 C "must" ["self","right"] spMust) :
  Yy P w K mg base Um 2 f fd ["reader"] (spSign K C lowC):=by
 refine F.ok sc_next_letter (fun vs H Q E h => ?_) (fun cdv A outer s H vs Q E hr h => ?_)
 ·obtain ⟨r,sA,bs,a,e,n,rfl,_⟩:=h
  rfl
 obtain ⟨r,sA,bs,a,e,b,rfl,hd,hl,hb,g,q⟩:=h
 refine ⟨_,(@Zj _ _ _ _ _ (@Zy _ 1 _ _ _ _ _ sc_next_letter.nd rfl (by trivial) (@pe_methF0 _ _ _ _ _ _ _ _ _ _ _ g_Reader_next_byte hr.m (pv 0) rfl) rfl (by trivial)) (@Zj _ _ _ _ _ (@Yw _ _ _ _ (@Y4 _ _ _ _ _ _ _ _ _ _ _ _ _ _ g_Reader_must hr.m (pv 0) (Zg (@pe_chain _ _ _ _ _ _ _ _ _ _ _ _ op_le op_le Zx (pv 1) Zx (by trivial)) Zz rfl) rfl rfl rfl) rfl) (@Zv _ _ _ (@Zd _ _ _ _ (@Zr _ _ _ _ _ _ _ ix_str (@pe_globS _ _ _ _ rfl c.LETTERS (by decide)) (@Zf _ _ _ _ _ _ _ _ Ug (pv 1) Zx) (fun _ _ => rfl)))))), ?_⟩
 obtain ⟨dx,h,hs⟩:=hd.ex
 have sa:=let_at b g
 obtain ⟨g1,g2⟩:=g
 refine ⟨_,rfl,r,dx,_,rfl,h,rfl,r,sA,bs,a,e,_,rfl,hd,hl,hb,fun H1 k1 d1 => ?_⟩
 obtain ⟨dx1,h1,hs1⟩:=d1.ex
 refine ⟨_,rfl,r,dx1,_,rfl,h1,rfl,_,rfl,_,_,rfl,rfl,_,rfl,Yp (decide_eq_true ?_) ⟨_,_,rfl,rfl,r,bls (decide_eq_true ?_), ?_⟩⟩
 ·show (97:Int) ≤ (b:Int); omega
 ·show (b:Int) ≤ 122; omega
 refine ⟨_,rfl,_,_,rfl,rfl,LET,_,b,rfl,rfl,LET_len, ?_,q H1 k1 d1⟩
 rw [show ((b:Int) - 97) = ((b - 97:Nat):Int) by omega]
 exact atI_nat sa
theorem join_chs (x:Str):Txt.join "" (x.cps.toList.map ch) = x:=by
 apply str_ext
 rw [join_list]
 generalize x.cps.toList = l
 induction l with
 | nil => rfl
 | cons a l ih => simp only [List.map_cons,List.flatten_cons,ih]; rfl
theorem ok_next_text (F:Uj K "next_text" "next_text" s_next_text f fd) (m:Bn mg) (c:Cn mg) (g_Reader_next_long:MFn P w K mg base 2 C "next_long" ["self","most"] (spNLong K C)) (g_next_sign:Fn P w K mg base 2 "next_sign" ["reader"] (spSign K C gdC)) :
  Yy P w K mg base Um 3 f fd ["reader"] (spNText K C):=by
 refine F.ok sc_next_text (fun vs H Q E h => ?_) (fun cdv A outer s H vs Q E hr h => ?_)
 ·obtain ⟨r,sA,bs,a,e,x,rfl,_⟩:=h
  rfl
 obtain ⟨r,sA,bs,a,e,x,rfl,hd,hp,tx,q⟩:=h
 refine ⟨_,(@Zj _ _ _ _ _ (@Zy _ 1 _ _ _ _ _ sc_next_text.nd rfl (by trivial) (@Y2 _ _ _ _ Zz) rfl (by trivial)) (@Zj _ _ _ _ _ (@ps_for _ _ _ _ _ _ _ _ PassesOwn.never rfl (@Vy _ _ _ _ _ _ rfl m.range (Zg (@Y4 _ _ _ _ _ _ _ _ _ _ _ _ _ _ g_Reader_next_long hr.m (pv 0) (Zg (@pe_globN _ _ _ _ rfl c.LONGEST_TEXT (by decide)) Zz rfl) rfl rfl rfl) Zz rfl) (by trivial)) (@Z0 _ 2 _ _ sc_next_text.nd rfl (Or.inl rfl) (by trivial)) (@Zv _ _ _ (@Yw _ _ _ _ (@pe_bm _ _ _ _ _ _ _ _ _ _ _ _ PySem.F.plainAttrs_list PySem.F.slot_list_append PySem.F.type_list_append Uq (pv 1) (Zg (@Zw _ _ _ _ _ _ _ _ _ _ g_next_sign hr.m rfl (Zg (pv 0) Zz rfl) (by decide) rfl rfl) Zz rfl) (by trivial) (by trivial) (by trivial) (by trivial) (by trivial)) rfl)) (by trivial)) (@Zv _ _ _ (@Zd _ _ _ _ (@pe_bm _ _ _ _ _ _ _ _ _ _ _ _ PySem.F.plainAttrs_str PySem.F.slot_str_join PySem.F.type_str_join mt_join Zc (Zg (pv 1) Zz rfl) (by trivial) (by trivial) (by trivial) (by trivial) (by trivial)))))), ?_⟩
 obtain ⟨hp1,hp2⟩:=hp.app
 have lx:=tx.1
 refine ⟨(sz 0),fun l hl => ?_⟩
 have s0:=Zb.lay (o:=.lst []) hl
 have hd0:=hd.same s0
 obtain ⟨dx,h,hs⟩:=hd0.ex
 refine ⟨_,rfl,r,dx,_,rfl,h,rfl,r,sA,bs,a,e,x.length,_,rfl,hd0,hp1,by omega,by omega,by omega,fun H1 k1 d1 => ?_⟩
 have hl1:H1 l = some (.lst []):=k1 _ _ (hd0.ne Zq) Zq
 have lc:=Y0 x
 refine ⟨_,rfl,by omega,by omega,for_range (n:=(x.length:Int).toNat) (fun i σ H2 => (∃ o,σ = [some (.ref r),some (.ref l),o])∧Kp r H H2∧Rd K C r sA bs H2 (a + (Lg x.length).length + i) e∧H2 l = some (.lst ((x.cps.toList.take i).map fun c => V.str (ch c)))) ⟨⟨_,rfl⟩,(Kp.same s0).trans k1,d1,hl1⟩ ?_ ?_⟩
 ·rintro i σ H2 hi ⟨⟨o,rfl⟩,k2,d2,hl2⟩
  have hi':i < x.cps.toList.length:=by rw [Array.length_toList]; show i < x.length; omega
  have ex:x.cps.toList[i]? = some x.cps.toList[i]:=List.getElem?_eq_getElem hi'
  have gx:=tx.2 _ (List.getElem_mem hi')
  generalize x.cps.toList[i] = cc at ex gx
  obtain ⟨gb,lt⟩:=hp2.get (codes_get ex)
  refine ⟨_,rfl,.inl ⟨rfl,_,Ym.of hl2⟩,_,rfl,r,sA,bs,_,e,cc,rfl,d2,lt,gb,gx,fun H3 k3 d3 => ?_⟩
  have hl3:H3 l = _:=k3 _ _ (d2.ne hl2) hl2
  have k3':∀ H3,Kp r H2 H3→Rd K C r sA bs H3 (a + (Lg x.length).length + i + 1) e→H3 l = some (.lst ((x.cps.toList.take i).map fun c => V.str (ch c)))→∀ o,Kp r H (Z4 H3 l o):=fun H3 k3 d3 hl3 o y o' n h' => by
   rw [Zh (Zl h' hl)]
   exact (k2.trans k3) y o' n h'
  refine ⟨l,_,_,rfl,rfl,hl3, ?_,⟨_,rfl⟩, ?_, ?_, ?_⟩
  ·rw [List.length_map]; exact Nat.lt_of_le_of_lt (show _ ≤ 1000 by rw [List.length_take,Array.length_toList]; show min i x.length ≤ _; omega) (by decide)
  ·exact k3' H3 k3 d3 hl3 _
  ·obtain ⟨dx3,h3,hs3⟩:=d3.ex
   exact hd.keep (k3' H3 k3 d3 hl3 _) ⟨dx3,by rw [Zh (d3.ne hl3).symm]; exact h3⟩
  ·rw [Zq,List.take_succ,ex,List.map_append]; rfl
 ·rintro σ H2 ⟨⟨o,rfl⟩,k2,d2,hl2⟩
  have et:(x.length:Int).toNat = x.length:=by omega
  rw [et] at d2 hl2
  rw [List.take_of_length_le (by rw [Array.length_toList]; exact Nat.le_refl _)] at hl2
  have e1:(x.cps.toList.map fun c => V.str (ch c)) = (x.cps.toList.map ch).map V.str:=by rw [List.map_map]; rfl
  rw [e1] at hl2
  refine ⟨rfl,_,rfl,_,l,_,rfl,rfl,Ym.of hl2, ?_, ?_⟩
  ·have e2:((x.cps.toList.map ch).map (·.length)).sum = x.length:=by
    rw [List.map_map]
    have:∀ l:List Nat,(l.map ((·.length) ∘ ch)).sum = l.length:=fun l => by
     induction l with
     | nil => rfl
     | cons a l ih => rw [List.map_cons,List.sum_cons,ih,List.length_cons]; show 1 + _ = _; omega
    rw [this,Array.length_toList]; rfl
   rw [e2,List.length_map,Array.length_toList]
   show x.length + x.length * 0 ≤ _
   omega
  ·rw [join_chs]
   refine q _ k2 ?_
   have:a + (sgB x).length = a + (Lg x.length).length + x.length:=by unfold sgB; rw [List.length_append,Y0]; omega
   rw [this]; exact d2
theorem ok_next_number (F:Uj K "next_number" "next_number" s_next_number f fd) (c:Cn mg) (g_Reader_next_long:MFn P w K mg base 2 C "next_long" ["self","most"] (spNLong K C)) (g_Reader_must:MFn P w K mg base 1 C "must" ["self","right"] spMust) :
  Yy P w K mg base Um 3 f fd ["reader","last"] (spNNum K C):=by
 refine F.ok sc_next_number (fun vs H Q E h => ?_) (fun cdv A outer s H vs Q E hr h => ?_)
 ·obtain ⟨r,sA,bs,a,e,n,m,rfl,_⟩:=h
  rfl
 obtain ⟨r,sA,bs,a,e,n,m,rfl,hd,hp,h0,h1,hm,q⟩:=h
 refine ⟨_,(@Zj _ _ _ _ _ (@Zy _ 2 _ _ _ _ _ sc_next_number.nd rfl (by trivial) (@Y4 _ _ _ _ _ _ _ _ _ _ _ _ _ _ g_Reader_next_long hr.m (pv 0) (Zg (@pe_globN _ _ _ _ rfl c.GREATEST_NUMBER (by decide)) Zz rfl) rfl rfl rfl) rfl (by trivial)) (@Zj _ _ _ _ _ (@Yw _ _ _ _ (@Y4 _ _ _ _ _ _ _ _ _ _ _ _ _ _ g_Reader_must hr.m (pv 0) (Zg (@Vb _ _ _ _ _ _ _ _ op_gt (pv 2) (pv 1) (Zt _)) Zz rfl) rfl rfl rfl) rfl) (@Zv _ _ _ (@Zd _ _ _ _ (pv 2))))), ?_⟩
 obtain ⟨dx,h,hs⟩:=hd.ex
 refine ⟨_,rfl,r,dx,_,rfl,h,rfl,r,sA,bs,a,e,n,_,rfl,hd,hp,h0,h1,by omega,fun H1 k1 d1 => ?_⟩
 obtain ⟨dx1,h1',hs1⟩:=d1.ex
 refine ⟨_,rfl,r,dx1,_,rfl,h1',rfl,_,rfl,_,rfl,_,_,rfl,rfl,r,bls (decide_eq_true hm), ?_⟩
 exact ⟨_,rfl,q H1 k1 d1⟩
theorem chs_more {x:Str} {i c:Nat} (h:x.cps.toList[i]? = some c):(⟨(x.cps.toList.take i).toArray⟩:Str) ++ ch c = ⟨(x.cps.toList.take (i + 1)).toArray⟩:=by
 apply str_ext
 show ((x.cps.toList.take i).toArray ++ #[c]).toList = (x.cps.toList.take (i + 1))
 rw [List.take_succ,h,Array.toList_append]
 rfl
theorem ok_next_key (F:Uj K "next_key" "next_key" s_next_key f fd) (m:Bn mg) (c:Cn mg) (g_Reader_next_long:MFn P w K mg base 2 C "next_long" ["self","most"] (spNLong K C)) (g_Reader_must:MFn P w K mg base 1 C "must" ["self","right"] spMust) (g_next_letter:Fn P w K mg base 2 "next_letter" ["reader"] (spSign K C lowC)) :
  Yy P w K mg base Um 3 f fd ["reader","last"] (spNKey K C):=by
 refine F.ok sc_next_key (fun vs H Q E h => ?_) (fun cdv A outer s H vs Q E hr h => ?_)
 ·obtain ⟨r,sA,bs,a,e,x,y,rfl,_⟩:=h
  rfl
 obtain ⟨r,sA,bs,a,e,x,y,rfl,hd,hp,nx,hy,q⟩:=h
 refine ⟨_,(@Zj _ _ _ _ _ (@Zy _ 2 _ _ _ _ _ sc_next_key.nd rfl (by trivial) (@Y4 _ _ _ _ _ _ _ _ _ _ _ _ _ _ g_Reader_next_long hr.m (pv 0) (Zg (@pe_globN _ _ _ _ rfl c.LONGEST_NAME (by decide)) Zz rfl) rfl rfl rfl) rfl (by trivial)) (@Zj _ _ _ _ _ (@Yw _ _ _ _ (@Y4 _ _ _ _ _ _ _ _ _ _ _ _ _ _ g_Reader_must hr.m (pv 0) (Zg (@Vb _ _ _ _ _ _ _ _ op_gt (pv 2) Zx (Zt _)) Zz rfl) rfl rfl rfl) rfl) (@Zj _ _ _ _ _ (@Zy _ 3 _ _ _ _ _ sc_next_key.nd rfl (by trivial) Zc rfl (by trivial)) (@Zj _ _ _ _ _ (@ps_for _ _ _ _ _ _ _ _ PassesOwn.never rfl (@Vy _ _ _ _ _ _ rfl m.range (Zg (pv 2) Zz rfl) (by trivial)) (@Z0 _ 4 _ _ sc_next_key.nd rfl (Or.inl rfl) (by trivial)) (@Zv _ _ _ (@Zy _ 3 _ _ _ _ _ sc_next_key.nd rfl (by trivial) (@Zf _ _ _ _ _ _ _ _ op_add_str (pv 3) (@Zw _ _ _ _ _ _ _ _ _ _ g_next_letter hr.m rfl (Zg (pv 0) Zz rfl) (by decide) rfl rfl)) rfl (by trivial))) (by trivial)) (@Zj _ _ _ _ _ (@Yw _ _ _ _ (@Y4 _ _ _ _ _ _ _ _ _ _ _ _ _ _ g_Reader_must hr.m (pv 0) (Zg (@Vb _ _ _ _ _ _ _ _ op_gt_str (pv 3) (pv 1) (Zt _)) Zz rfl) rfl rfl rfl) rfl) (@Zv _ _ _ (@Zd _ _ _ _ (pv 3)))))))), ?_⟩
 obtain ⟨hp1,hp2⟩:=hp.app
 obtain ⟨n1,n2,n3⟩:=nx
 obtain ⟨dx,h,hs⟩:=hd.ex
 refine ⟨_,rfl,r,dx,_,rfl,h,rfl,r,sA,bs,a,e,x.length,_,rfl,hd,hp1,by omega,by omega,by omega,fun H1 k1 d1 => ?_⟩
 obtain ⟨dx1,h1,hs1⟩:=d1.ex
 refine ⟨_,rfl,r,dx1,_,rfl,h1,rfl,_,rfl,_,_,rfl,rfl,r,bls (decide_eq_true (by show (0:Int) < x.length; omega)), ?_⟩
 refine ⟨_,rfl,_,rfl,by omega,by omega,for_range (n:=(x.length:Int).toNat) (fun i σ H2 => (∃ o,σ = [some (.ref r),some (.str y),some (.int x.length),some (.str ⟨(x.cps.toList.take i).toArray⟩),o])∧Kp r H H2∧Rd K C r sA bs H2 (a + (Lg x.length).length + i) e) ⟨⟨_,rfl⟩,k1,d1⟩ ?_ ?_⟩
 ·rintro i σ H2 hi ⟨⟨o,rfl⟩,k2,d2⟩
  have hi':i < x.cps.toList.length:=by rw [Array.length_toList]; show i < x.length; omega
  have ex:x.cps.toList[i]? = some x.cps.toList[i]:=List.getElem?_eq_getElem hi'
  have gx:=n3 _ (List.getElem_mem hi')
  generalize x.cps.toList[i] = cc at ex gx
  obtain ⟨gb,lt⟩:=hp2.get (codes_get ex)
  refine ⟨_,rfl,_,rfl,r,sA,bs,_,e,cc,rfl,d2,lt,gb,gx,fun H3 k3 d3 => ?_⟩
  refine ⟨_,_,rfl,rfl, ?_,⟨some (.int (0 + (i:Int))), ?_⟩,k2.trans k3,d3⟩
  ·exact Nat.le_trans (show _ ≤ 1000 by show (x.cps.toList.take i).toArray.size + 1 ≤ _; rw [List.size_toArray,List.length_take,Array.length_toList]; show min i x.length + 1 ≤ _; omega) (by decide)
  ·rw [chs_more ex]; rfl
 ·rintro σ H2 ⟨⟨o,rfl⟩,k2,d2⟩
  have et:(x.length:Int).toNat = x.length:=by omega
  rw [et] at d2
  have ek:(⟨(x.cps.toList.take (x.length:Int).toNat).toArray⟩:Str) = x:=by
   apply str_ext
   show x.cps.toList.take (x.length:Int).toNat = _
   rw [et,List.take_of_length_le (by rw [Array.length_toList]; exact Nat.le_refl _)]
  rw [ek]
  obtain ⟨dx2,h2,hs2⟩:=d2.ex
  refine ⟨_,rfl,r,dx2,_,rfl,h2,rfl,_,rfl,_,rfl,_,_,rfl,rfl,r,bls (decide_eq_true hy), ?_⟩
  refine ⟨_,rfl,q _ k2 ?_⟩
  have:a + (sgB x).length = a + (Lg x.length).length + x.length:=by unfold sgB; rw [List.length_append,Y0]; omega
  rw [this]; exact d2
theorem ok_next_label (F:Uj K "next_label" "next_label" s_next_label f fd) (g_next_number:Fn P w K mg base 3 "next_number" ["reader","last"] (spNNum K C)) (g_next_key:Fn P w K mg base 3 "next_key" ["reader","last"] (spNKey K C)) :
  Yy P w K mg base Um 4 f fd ["reader","sort","last"] (spNLabel K C):=by
 refine F.ok sc_next_label (fun vs H Q E h => ?_) (fun cdv A outer s H vs Q E hr h => ?_)
 ·obtain ⟨r,sA,bs,a,e,s',l,v,rfl,_⟩:=h
  rfl
 obtain ⟨r,sA,bs,a,e,s',l,v,rfl,hd,hp,hs,bl,q⟩:=h
 refine ⟨_,(@Zj _ _ _ _ _ (@Z8 _ _ _ _ _ _ _ _ (@Zm _ _ _ _ _ _ _ _ Yf (pv 1) Zc (Zt _)) (@Zv _ _ _ (@Zd _ _ _ _ (@Zw _ _ _ _ _ _ _ _ _ _ g_next_key hr.m rfl (Zg (pv 0) (Zg (pv 2) Zz rfl) rfl) (by decide) rfl rfl))) Za) (@Zj _ _ _ _ _ (@Z8 _ _ _ _ _ _ _ _ (@Zm _ _ _ _ _ _ _ _ Yf (pv 1) Zc (Zt _)) (@Zv _ _ _ (@Zd _ _ _ _ (@Zw _ _ _ _ _ _ _ _ _ _ g_next_number hr.m rfl (Zg (pv 0) (Zg (pv 2) Zz rfl) rfl) (by decide) rfl rfl))) Za) (@Zv _ _ _ (@Zd _ _ _ _ pe_non)))), ?_⟩
 refine ⟨_,rfl,rfl,_,rfl, ?_⟩
 rcases hs with ⟨rfl,rfl⟩ | ⟨rfl,x,rfl,nx⟩ | ⟨rfl,n,rfl,n0,n1⟩
 ·exact Yq (by decide +kernel) ⟨_,rfl,rfl,_,rfl,Yq (by decide +kernel) (q H (Kp.refl H) hd)⟩
 ·obtain ⟨y,rfl,hy⟩:=bl
  exact Yp (by decide +kernel) ⟨_,rfl,_,rfl,r,sA,bs,a,e,x,y,rfl,hd,hp,nx,hy,q⟩
 ·obtain ⟨m,rfl,hm⟩:=bl
  exact Yq (by decide +kernel) ⟨_,rfl,rfl,_,rfl,Yp (by decide +kernel) ⟨_,rfl,_,rfl,r,sA,bs,a,e,n,m,rfl,hd,hp,by omega,n1,hm,q⟩⟩
end
def lab0:Nat→V
 | 0 => .non
 | 1 => .str ""
 | _ => .int 0
structure BelowOk (K:W.Frag) (w:World) (a:Addr):Prop where
 top:TopD K w a
 at':∀ s,s ≤ 2→∃ u,W.nsIn K a (srt s) = some (some u)∧Z6 (lab0 s) u
def spNItem (K:W.Frag) (C:Addr):Nat→Sp
 | 0 => fun _ _ _ _ => False
 | n + 1 => fun vs H Q _ => ∃ r sA bs a e d it,vs = [.ref r,.int d]∧Rd K C r sA bs H a e∧Pre bs a e (Zi it)∧GdI it∧Vx it ≤ n + 1∧d + Vx it ≤ 101∧(Zi it).length ≤ 1000000∧∀ v H',Kp r H H'→Rd K C r sA bs H' (a + (Zi it).length) e→Yv K H' (toD it) v→Q v H'
theorem mkD2 {K:W.Frag} {H:Hp} {a b:D} {p:Addr} {x y:V} (q:Z9 K H p [x,y]) (h1:Yv K H a x) (h2:Yv K H b y):Yv K H (.tup [a,b]) (.ref p):=⟨p,_,rfl,q,x,_,rfl,h1,y,_,rfl,h2,rfl⟩
theorem mkD3 {K:W.Frag} {H:Hp} {a b c:D} {p:Addr} {x y z:V} (q:Z9 K H p [x,y,z]) (h1:Yv K H a x) (h2:Yv K H b y) (h3:Yv K H c z):Yv K H (.tup [a,b,c]) (.ref p):=⟨p,_,rfl,q,x,_,rfl,h1,y,_,rfl,h2,z,_,rfl,h3,rfl⟩
theorem areD_snoc {K:W.Frag} {H:Hp}:∀ {ds:List D} {zs:List V} {d:D} {z:V},Zn K H ds zs→Yv K H d z→Zn K H (ds ++ [d]) (zs ++ [z])
 | [],zs,d,z,h,i => by
  have:zs = []:=h
  subst this
  exact ⟨z,[],rfl,i,rfl⟩
 | a :: ds,zs,d,z,h,i => by
  obtain ⟨v,r,rfl,q,t⟩:=h
  exact ⟨v,r ++ [z],rfl,q,areD_snoc t i⟩
theorem prtDs_take:∀ {ls:List Lb} {es:List IT} {j:Nat} {l:Lb} {e:IT},ls[j]? = some l→es[j]? = some e→Y1 (ls.take (j + 1)) (toDs (es.take (j + 1))) = Y1 (ls.take j) (toDs (es.take j)) ++ [prtD l (toD e)]
 | [],_,j,l,e,h,_ => by simp at h
 | _ :: _,[],j,l,e,_,h => by simp at h
 | l0 :: ls,e0 :: es,0,l,e,h1,h2 => by
  simp at h1 h2
  subst h1 h2
  simp [Y1,toDs]
 | l0 :: ls,e0 :: es,j + 1,l,e,h1,h2 => by
  have ih:=prtDs_take (ls:=ls) (es:=es) (j:=j) (by simpa using h1) (by simpa using h2)
  rw [List.take_succ_cons,List.take_succ_cons,List.take_succ_cons,List.take_succ_cons]
  simp only [Y1,toDs]
  rw [ih]
  rfl
theorem byIs_split:∀ (ls:List Lb) (es:List IT) (j:Nat),ls.length = es.length→Zu ls es = Zu (ls.take j) (es.take j) ++ Zu (ls.drop j) (es.drop j)
 | [],es,j,h => by simp [Zu]
 | l :: ls,[],j,h => by simp at h
 | l :: ls,e :: es,0,h => by simp [Zu]
 | l :: ls,e :: es,j + 1,h => by
  rw [List.take_succ_cons,List.take_succ_cons,List.drop_succ_cons,List.drop_succ_cons]
  simp only [Zu]
  rw [byIs_split ls es j (by simpa using h)]
  simp only [List.append_assoc]
theorem byI_pos:∀ it:IT,1 ≤ (Zi it).length
 | .whole _ => by simp only [Zi,List.length_cons]; omega
 | .text _ => by simp only [Zi,List.length_cons]; omega
 | .arm _ _ => by simp only [Zi,List.length_cons]; omega
 | .lst _ _ _ => by simp only [Zi,List.length_cons]; omega
theorem byIs_many:∀ (ls:List Lb) (es:List IT),ls.length = es.length→es.length ≤ (Zu ls es).length
 | [],[],_ => by simp
 | [],_ :: _,h => by simp at h
 | _ :: _,[],h => by simp at h
 | l :: ls,e :: es,h => by
  have:=byIs_many ls es (by simpa using h)
  have:=byI_pos e
  simp only [Zu,List.length_append,List.length_cons]; omega
theorem below0 {s:Nat} {ls:List Lb} (hs:s ≤ 2) (g:GdL s ls):∀ l,ls[0]? = some l→Below (lab0 s) l:=by
 intro l h
 have hl:=g.at hs l (List.mem_of_getElem? h)
 rcases hl with ⟨rfl,rfl⟩ | ⟨rfl,x,rfl,nx⟩ | ⟨rfl,n,rfl,n0,n1⟩
 ·trivial
 ·refine ⟨"",rfl, ?_⟩
  obtain ⟨h1,_,_⟩:=nx
  show (Str.cps "").toList < x.cps.toList
  have e:(Str.cps "").toList = []:=by decide +kernel
  rw [e]
  cases hx:x.cps.toList with
  | nil =>
   have:x.length = 0:=by show x.cps.size = 0; rw [← Array.length_toList,hx]; rfl
   omega
  | cons a l => exact List.nil_lt_cons a l
 ·exact ⟨0,rfl,by omega⟩
theorem pw_next {α:Type} {r:α→α→Prop}:∀ {l:List α} {i:Nat} {a b:α},l.Pairwise r→l[i]? = some a→l[i + 1]? = some b→r a b
 | [],i,a,b,_,h,_ => by simp at h
 | x :: l,0,a,b,p,h1,h2 => by
  simp at h1
  subst h1
  exact (List.pairwise_cons.mp p).1 b (List.mem_of_getElem? (by simpa using h2))
 | x :: l,i + 1,a,b,p,h1,h2 => pw_next (List.pairwise_cons.mp p).2 (by simpa using h1) (by simpa using h2)
theorem below1 {s:Nat} {ls:List Lb} (hs:s ≤ 2) (g:GdL s ls) {i:Nat} {l l':Lb} (h:ls[i]? = some l) (h':ls[i + 1]? = some l'):Below (lbV l) l':=by
 match s,hs,g with
 | 0,_,g =>
  rw [g l' (List.mem_of_getElem? h')]
  cases l <;> trivial
 | 1,_,⟨ks,e,_,ha⟩ =>
  have pw:=adj_pair (r:=ltS) (fun _ _ _ h1 h2 => ltS_trans h1 h2) ha
  subst e
  rw [List.getElem?_map] at h h'
  cases hx:ks[i]? with
  | none => rw [hx] at h; cases h
  | some x =>
   cases hy:ks[i + 1]? with
   | none => rw [hy] at h'; cases h'
   | some y =>
    rw [hx] at h; rw [hy] at h'
    cases h; cases h'
    exact ⟨x,rfl,pw_next pw hx hy⟩
 | 2,_,⟨ks,e,_,pw⟩ =>
  subst e
  rw [List.getElem?_map] at h h'
  cases hx:ks[i]? with
  | none => rw [hx] at h; cases h
  | some x =>
   cases hy:ks[i + 1]? with
   | none => rw [hy] at h'; cases h'
   | some y =>
    rw [hx] at h; rw [hy] at h'
    cases h; cases h'
    exact ⟨x,rfl,pw_next pw hx hy⟩
section
variable {P:Program} {w:World} {K:W.Frag} {mg:Str→Option Value} {base:Heap} {f:Addr} {fd:FuncData} {C aS aB:Addr}
theorem ok_next_item (F:Uj K "next_item" "next_item" s_next_item f fd) (m:Bn mg) (c:Cn mg) (co:RdOk K C) (so:Ub K aS) (x_SORTS:mg "SORTS" = some (.ref aS)) (bo:BelowOk K w aB) (x_BELOW_LABELS:mg "BELOW_LABELS" = some (.ref aB)) (bd:Binds K fd ["reader","deep"] []) (mf:mg "next_item" = some (.ref f))
  (g_Reader_next_byte:MFn P w K mg base 1 C "next_byte" ["self"] (spNByte K C)) (g_Reader_must:MFn P w K mg base 1 C "must" ["self","right"] spMust) (g_Reader_next_long:MFn P w K mg base 2 C "next_long" ["self","most"] (spNLong K C))
  (g_Reader_enter_room:MFn P w K mg base 3 C "enter_room" ["self"] (spEnter K C)) (g_Reader_leave_room:MFn P w K mg base 1 C "leave_room" ["self","around"] (spLeave K C))
  (g_unfolded:Fn P w K mg base 1 "unfolded" ["n"] spUnf) (g_next_text:Fn P w K mg base 3 "next_text" ["reader"] (spNText K C)) (g_next_number:Fn P w K mg base 3 "next_number" ["reader","last"] (spNNum K C)) (g_next_label:Fn P w K mg base 4 "next_label" ["reader","sort","last"] (spNLabel K C)) :
  ∀ n,Yy P w K mg base Um (n + 5) f fd ["reader","deep"] (spNItem K C n)
 | 0 => ⟨fun vs H Q E h => h.elim,fun A outer s H args us vs Q E _ _ _ _ h => h.elim⟩
 | n + 1 => by
  have g_next_item:Fn P w K mg base (n + 5) "next_item" ["reader","deep"] (spNItem K C n):=⟨f,fd,ok_next_item F m c co so x_SORTS bo x_BELOW_LABELS bd mf g_Reader_next_byte g_Reader_must g_Reader_next_long g_Reader_enter_room g_Reader_leave_room g_unfolded g_next_text g_next_number g_next_label n,bd,F.kp,mf⟩
  refine F.ok Ya (fun vs H Q E h => ?_) (fun cdv A outer s H vs Q E hr h => ?_)
  ·obtain ⟨r,sA,bs,a,e,d,it,rfl,_⟩:=h
   rfl
  obtain ⟨r,sA,bs,a,e,d,it,rfl,hd,hp,gd,dp,dd,lb,q⟩:=h
  refine ⟨_,(@Zj _ _ _ _ _ (@Zy _ 2 _ _ _ _ _ Ya.nd rfl (by trivial) (@pe_methF0 _ _ _ _ _ _ _ _ _ _ _ g_Reader_next_byte hr.m (pv 0) rfl) rfl (by trivial)) (@Zj _ _ _ _ _ (@Yw _ _ _ _ (@Y4 _ _ _ _ _ _ _ _ _ _ _ _ _ _ g_Reader_must hr.m (pv 0) (Zg (@pe_and _ _ _ _ _ _ _ (@Vb _ _ _ _ _ _ _ _ op_lt (pv 2) (@Z5 _ _ _ _ _ _ _ _ _ Yg rfl m.len b_len (Zg (@Uk _ _ _ _ rfl x_SORTS (by decide)) Zz rfl) (by decide) (by decide) rfl rfl) (Zt _)) (@pe_one _ _ _ _ _ (@Vb _ _ _ _ _ _ _ _ op_le (pv 1) (@pe_globN _ _ _ _ rfl c.DEEPEST (by decide)) (Zt _)))) Zz rfl) rfl rfl rfl) rfl) (@Zj _ _ _ _ _ (@Zy _ 3 _ _ _ _ _ Ya.nd rfl (by trivial) (@Zr _ _ _ _ _ _ _ Zp (@Uk _ _ _ _ rfl x_SORTS (by decide)) (pv 2) (fun _ _ => rfl)) rfl (by trivial)) (@Zj _ _ _ _ _ (@Z8 _ _ _ _ _ _ _ _ (@Zm _ _ _ _ _ _ _ _ Yf (pv 3) Zc (Zt _)) (@Zv _ _ _ (@Zd _ _ _ _ (@Z3 _ _ _ _ _ (Zg (pv 3) (Zg (@Zw _ _ _ _ _ _ _ _ _ _ g_unfolded hr.m rfl (Zg (@Y4 _ _ _ _ _ _ _ _ _ _ _ _ _ _ g_Reader_next_long hr.m (pv 0) (Zg (@Zf _ _ _ _ _ _ _ _ Vp Zx (@pe_globN _ _ _ _ rfl c.GREATEST_WHOLE (by decide))) Zz rfl) rfl rfl rfl) Zz rfl) (by decide) rfl rfl) Zz rfl) rfl)))) Za) (@Zj _ _ _ _ _ (@Z8 _ _ _ _ _ _ _ _ (@Zm _ _ _ _ _ _ _ _ Yf (pv 3) Zc (Zt _)) (@Zv _ _ _ (@Zd _ _ _ _ (@Z3 _ _ _ _ _ (Zg (pv 3) (Zg (@Zw _ _ _ _ _ _ _ _ _ _ g_next_text hr.m rfl (Zg (pv 0) Zz rfl) (by decide) rfl rfl) Zz rfl) rfl)))) Za) (@Zj _ _ _ _ _ (@Z8 _ _ _ _ _ _ _ _ (@Zm _ _ _ _ _ _ _ _ Yf (pv 3) Zc (Zt _)) (@Zj _ _ _ _ _ (@Zy _ 4 _ _ _ _ _ Ya.nd rfl (by trivial) (@Zw _ _ _ _ _ _ _ _ _ _ g_next_number hr.m rfl (Zg (pv 0) (Zg Zx Zz rfl) rfl) (by decide) rfl rfl) rfl (by trivial)) (@Zv _ _ _ (@Zd _ _ _ _ (@Z3 _ _ _ _ _ (Zg (pv 3) (Zg (pv 4) (Zg (@Zw _ _ _ _ _ _ _ _ _ _ g_next_item hr.m rfl (Zg (pv 0) (Zg (@Zf _ _ _ _ _ _ _ _ Z1 (pv 1) Zx) Zz rfl) rfl) (by decide) rfl rfl) Zz rfl) rfl) rfl))))) Za) (@Zj _ _ _ _ _ (@Zy _ 5 _ _ _ _ _ Ya.nd rfl (by trivial) (@Y2 _ _ _ _ Zz) rfl (by trivial)) (@Zj _ _ _ _ _ (@Zy _ 6 _ _ _ _ _ Ya.nd rfl (by trivial) (@Zr _ _ _ _ _ _ _ ix_topD (@Uk _ _ _ _ rfl x_BELOW_LABELS (by decide)) (pv 3) (fun _ _ => rfl)) rfl (by trivial)) (@Zj _ _ _ _ _ (@Zy _ 7 _ _ _ _ _ Ya.nd rfl (by trivial) (@pe_methF0 _ _ _ _ _ _ _ _ _ _ _ g_Reader_enter_room hr.m (pv 0) rfl) rfl (by trivial)) (@Zj _ _ _ _ _ (@ps_while _ _ _ _ _ _ PassesOwn.never (@Zm _ _ _ _ _ _ _ _ op_lt (@pe_fld _ _ _ _ _ (pv 0) rfl) (@pe_fld _ _ _ _ _ (pv 0) rfl) (Zt _)) (@Zj _ _ _ _ _ (@Zy _ 6 _ _ _ _ _ Ya.nd rfl (by trivial) (@Zw _ _ _ _ _ _ _ _ _ _ g_next_label hr.m rfl (Zg (pv 0) (Zg (pv 3) (Zg (pv 6) Zz rfl) rfl) rfl) (by decide) rfl rfl) rfl (by trivial)) (@Zj _ _ _ _ _ (@Zy _ 8 _ _ _ _ _ Ya.nd rfl (by trivial) (@Zw _ _ _ _ _ _ _ _ _ _ g_next_item hr.m rfl (Zg (pv 0) (Zg (@Zf _ _ _ _ _ _ _ _ Z1 (pv 1) Zx) Zz rfl) rfl) (by decide) rfl rfl) rfl (by trivial)) (@Zv _ _ _ (@Yw _ _ _ _ (@pe_bm _ _ _ _ _ _ _ _ _ _ _ _ PySem.F.plainAttrs_list PySem.F.slot_list_append PySem.F.type_list_append Uq (pv 5) (Zg (@pe_ifExp _ _ _ _ _ _ _ _ (@Zm _ _ _ _ _ _ _ _ Yf (pv 3) Zc (Zt _)) (pv 8) (@Z3 _ _ _ _ _ (Zg (pv 6) (Zg (pv 8) Zz rfl) rfl))) Zz rfl) (by trivial) (by trivial) (by trivial) (by trivial) (by trivial)) rfl))))) (@Zj _ _ _ _ _ (@Yw _ _ _ _ (@Y4 _ _ _ _ _ _ _ _ _ _ _ _ _ _ g_Reader_leave_room hr.m (pv 0) (Zg (pv 7) Zz rfl) rfl rfl rfl) rfl) (@Zv _ _ _ (@Zd _ _ _ _ (@Z3 _ _ _ _ _ (Zg (pv 3) (Zg (@Yt _ _ _ _ _ _ _ _ _ Yc rfl m.tuple b_tuple (Zg (pv 5) Zz rfl) (by trivial) (by trivial) (by trivial) (by trivial)) Zz rfl) rfl))))))))))))))), ?_⟩
  obtain ⟨dx,h,hs⟩:=hd.ex
  have e1:1 ≤ Vx it:=by cases it <;> simp only [Vx] <;> omega
  have dle:d ≤ 100:=by omega
  have head:∀ (b:Nat) (Vz:List Int),Zi it = ((b:Nat):Int) :: Vz→b ≤ 5→bs[a]? = some ((b:Nat):Int)∧a < e∧Pre bs (a + 1) e Vz:=fun b Vz eb _ => by rw [eb] at hp; exact hp.cons
  cases it with
  | whole k =>
   obtain ⟨gb,lt,pr⟩:=head 0 _ rfl (by omega)
   refine ⟨_,rfl,r,dx,_,rfl,h,rfl,r,sA,bs,a,e,_,rfl,hd,lt,gb,fun H1 k1 d1 => ?_⟩
   obtain ⟨dx1,h1,_⟩:=d1.ex
   refine ⟨_,rfl,r,dx1,_,rfl,h1,rfl,_,rfl,aS,_,rfl,.inr (so.sq _),_,_,rfl,rfl,_,rfl,Yp (decide_eq_true (by decide)) ⟨_,rfl,_,_,rfl,rfl,r,bls (decide_eq_true dle), ?_⟩⟩
   refine ⟨_,rfl,aS,_,_,_,rfl,rfl,so.sq _,rfl, ?_⟩
   refine ⟨_,rfl,rfl,_,rfl,Yp (by decide +kernel) ?_⟩
   refine ⟨_,rfl,_,rfl,r,dx1,_,rfl,h1,rfl,_,_,rfl,rfl,.inl ⟨by decide,by decide⟩,r,sA,bs,a + 1,e,V8 k,_,rfl,d1,pr,fold_nn k,Int.le_trans (fold_le gd.1 gd.2) (by decide),by decide,fun H2 k2 d2 => ?_⟩
   refine ⟨k,rfl,(sz 2),fun p hp' => ?_⟩
   have s3:=Zb.lay (o:=.tup [.str "whole",.int k]) hp'
   refine q _ _ ((k1.trans k2).trans (Kp.same s3)) ?_ (mkD2 (Z9.of Zq) rfl rfl)
   have:a + (Zi (.whole k)).length = a + 1 + (Lg (V8 k)).length:=by simp only [Zi,List.length_cons]; omega
   rw [this]; exact d2.same s3
  | text x =>
   obtain ⟨gb,lt,pr⟩:=head 1 _ rfl (by omega)
   refine ⟨_,rfl,r,dx,_,rfl,h,rfl,r,sA,bs,a,e,_,rfl,hd,lt,gb,fun H1 k1 d1 => ?_⟩
   obtain ⟨dx1,h1,_⟩:=d1.ex
   refine ⟨_,rfl,r,dx1,_,rfl,h1,rfl,_,rfl,aS,_,rfl,.inr (so.sq _),_,_,rfl,rfl,_,rfl,Yp (decide_eq_true (by decide)) ⟨_,rfl,_,_,rfl,rfl,r,bls (decide_eq_true dle), ?_⟩⟩
   refine ⟨_,rfl,aS,_,_,_,rfl,rfl,so.sq _,rfl, ?_⟩
   refine ⟨_,rfl,rfl,_,rfl,Yq (by decide +kernel) ?_⟩
   refine ⟨_,rfl,rfl,_,rfl,Yp (by decide +kernel) ?_⟩
   refine ⟨_,rfl,_,rfl,r,sA,bs,a + 1,e,x,rfl,d1,pr,gd,fun H2 k2 d2 => ?_⟩
   refine ⟨(sz 2),fun p hp' => ?_⟩
   have s3:=Zb.lay (o:=.tup [.str "text",.str x]) hp'
   refine q _ _ ((k1.trans k2).trans (Kp.same s3)) ?_ (mkD2 (Z9.of Zq) rfl rfl)
   have:a + (Zi (.text x)).length = a + 1 + (sgB x).length:=by simp only [Zi,List.length_cons]; omega
   rw [this]; exact d2.same s3
  | arm k it =>
   obtain ⟨gb,lt,pr⟩:=head 5 _ rfl (by omega)
   obtain ⟨pr1,pr2⟩:=pr.app
   obtain ⟨g1,g2,g3⟩:=gd
   have de:Vx it + 1 ≤ n + 1:=dp
   have de2:d + (Vx it + 1) ≤ 101:=dd
   have ei:1 ≤ Vx it:=by cases it <;> simp only [Vx] <;> omega
   have lb':(Zi (.arm k it)).length = (Lg k).length + (Zi it).length + 1:=by simp only [Zi,List.length_cons,List.length_append]
   obtain ⟨n',rfl⟩:∃ n',n = n' + 1:=⟨n - 1,by omega⟩
   refine ⟨_,rfl,r,dx,_,rfl,h,rfl,r,sA,bs,a,e,_,rfl,hd,lt,gb,fun H1 k1 d1 => ?_⟩
   obtain ⟨dx1,h1,_⟩:=d1.ex
   refine ⟨_,rfl,r,dx1,_,rfl,h1,rfl,_,rfl,aS,_,rfl,.inr (so.sq _),_,_,rfl,rfl,_,rfl,Yp (decide_eq_true (by decide)) ⟨_,rfl,_,_,rfl,rfl,r,bls (decide_eq_true dle), ?_⟩⟩
   refine ⟨_,rfl,aS,_,_,_,rfl,rfl,so.sq _,rfl, ?_⟩
   refine ⟨_,rfl,rfl,_,rfl,Yq (by decide +kernel) ?_⟩
   refine ⟨_,rfl,rfl,_,rfl,Yq (by decide +kernel) ?_⟩
   refine ⟨_,rfl,rfl,_,rfl,Yp (by decide +kernel) ?_⟩
   refine ⟨_,rfl,r,sA,bs,a + 1,e,k,0,rfl,d1,pr1,by omega,g2,by omega,fun H2 k2 d2 => ?_⟩
   refine ⟨_,rfl,_,rfl,_,rfl,_,rfl,_,_,rfl,rfl,r,sA,bs,_,e,d + 1,it,rfl,d2,pr2,g3,by omega,by omega,by omega,fun v H3 k3 d3 i3 => ?_⟩
   refine ⟨(sz 3),fun p hp' => ?_⟩
   have s4:=Zb.lay (o:=.tup [.str "arm",.int k,v]) hp'
   refine q _ _ (((k1.trans k2).trans k3).trans (Kp.same s4)) ?_ (mkD3 (Z9.of Zq) rfl rfl (Yv.up s4.up _ _ (Z7 it) i3))
   have:a + (Zi (.arm k it)).length = a + 1 + (Lg k).length + (Zi it).length:=by omega
   rw [this]; exact d3.same s4
  | lst st ls es =>
   obtain ⟨hs2,hl,gl,ge⟩:=gd
   obtain ⟨n1,n2,n3⟩:=srt_ne st
   obtain ⟨gb,lt,pr⟩:=head (st + 2) _ (by simp only [Zi]; rfl) (by omega)
   obtain ⟨pr1,pr2⟩:=pr.app
   have lb':(Zi (.lst st ls es)).length = (Lg (Zu ls es).length).length + (Zu ls es).length + 1:=by simp only [Zi,List.length_cons,List.length_append]
   obtain ⟨u0,hu0,ru0⟩:=bo.at' st hs2
   refine ⟨_,rfl,r,dx,_,rfl,h,rfl,r,sA,bs,a,e,_,rfl,hd,lt,gb,fun H1 k1 d1 => ?_⟩
   obtain ⟨dx1,h1,_⟩:=d1.ex
   refine ⟨_,rfl,r,dx1,_,rfl,h1,rfl,_,rfl,aS,_,rfl,.inr (so.sq _),_,_,rfl,rfl,_,rfl,Yp (decide_eq_true (show ((st + 2:Nat):Int) < 6 by omega)) ⟨_,rfl,_,_,rfl,rfl,r,bls (decide_eq_true dle), ?_⟩⟩
   refine ⟨_,rfl,aS,_,_,.str (srt st),rfl,rfl,so.sq _,atI_nat (by rw [List.getElem?_map,(sIndex hs2).1]; rfl), ?_⟩
   refine ⟨_,rfl,rfl,_,rfl,Yq (vs_ne n1) ?_⟩
   refine ⟨_,rfl,rfl,_,rfl,Yq (vs_ne n2) ?_⟩
   refine ⟨_,rfl,rfl,_,rfl,Yq (vs_ne n3) ?_⟩
   refine ⟨(sz 0),fun l hl0 => ?_⟩
   have s2:=Zb.lay (o:=.lst []) hl0
   have d2:=d1.same s2
   obtain ⟨dx2,h2,_⟩:=d2.ex
   refine ⟨_,rfl,aB,srt st,lab0 st,u0,rfl,rfl,bo.top,hu0,ru0, ?_⟩
   refine ⟨_,rfl,r,dx2,_,rfl,h2,rfl,r,sA,bs,a + 1,e,(Zu ls es).length,rfl,d2,pr1,by omega, ?_,fun H3 k3 d3 => ?_⟩
   ·have:=pr2.2; omega
   have hl3:H3 l = some (.lst []):=k3 _ _ (d2.ne Zq) Zq
   have hnl:H l = none:=by
    cases hx:H l with
    | none => rfl
    | some o =>
     by_cases hz:l = r
     ·rw [hz] at hl0; rw [h1] at hl0; cases hl0
     ·have:=k1 l o hz hx
      rw [hl0] at this; cases this
   have k03:Kp r H H3:=(k1.trans (Kp.same s2)).trans k3
   obtain ⟨A0,hA0⟩:∃ A0,A0 = a + 1 + (Lg (Zu ls es).length).length:=⟨_,rfl⟩
   rw [← hA0] at d3 pr2
   have pr3:=pr2.narrow (Nat.le_refl (A0 + (Zu ls es).length))
   refine ⟨fun μ σ H4 => ∃ i zs lab o8,μ = es.length - i∧i ≤ es.length∧σ = [some (.ref r),some (.int d),some (.int ((st + 2:Nat):Int)),some (.str (srt st)),none,some (.ref l),some lab,some (.int e),o8]∧Kp r H H4∧Rd K C r sA bs H4 (A0 + (Zu (ls.take i) (es.take i)).length) (A0 + (Zu ls es).length)∧H4 l = some (.lst zs)∧zs.length = i∧Zn K H4 (Y1 (ls.take i) (toDs (es.take i))) zs∧(∀ lb,ls[i]? = some lb→Below lab lb),
    ⟨es.length,0,[],lab0 st,_,rfl,Nat.zero_le _,rfl,k03,by simpa [Zu] using d3,hl3,rfl,rfl,below0 hs2 gl⟩, ?_⟩
   rintro μ σ H4 ⟨i,zs,lab,o8,rfl,hi,rfl,k4,d4,hl4,zl,ar,bw⟩
   obtain ⟨dx4,h4,_⟩:=d4.ex
   refine ⟨_,rfl,r,C,dx4,_,_,rfl,h4,co.cl,co.at',rfl,_,rfl,r,C,dx4,_,_,rfl,h4,co.cl,co.end',rfl,_,_,rfl,rfl,_,rfl, ?_⟩
   have spl:=byIs_split ls es i hl
   have spl':=congrArg List.length spl
   rw [List.length_append] at spl'
   by_cases hlt:i < es.length
   ·have hil:i < ls.length:=by omega
    have el:ls[i]? = some ls[i]:=List.getElem?_eq_getElem hil
    have ee:es[i]? = some es[i]:=List.getElem?_eq_getElem hlt
    have dr:Zu (ls.drop i) (es.drop i) = lbB ls[i] ++ Zi es[i] ++ Zu (ls.drop (i + 1)) (es.drop (i + 1)):=byIs_drop el ee
    have tk:Zu (ls.take (i + 1)) (es.take (i + 1)) = Zu (ls.take i) (es.take i) ++ lbB ls[i] ++ Zi es[i]:=byIs_take el ee
    have pt:=prtDs_take el ee
    have ml:ls[i] ∈ ls:=List.getElem_mem hil
    have me:es[i] ∈ es:=List.getElem_mem hlt
    have bw1:=bw _ el
    have bwn:∀ lb,ls[i + 1]? = some lb→Below (lbV ls[i]) lb:=fun lb h => below1 hs2 gl el h
    generalize ls[i] = lb at el dr tk pt ml bw1 bwn
    generalize es[i] = it at ee dr tk pt me
    have hls:=gl.at hs2 lb ml
    have gde:=V0.mp ge it me
    have dm:=dpI_mem me
    have dp':dpIs es + 1 ≤ n + 1:=dp
    have dd':d + (dpIs es + 1) ≤ 101:=dd
    have ei:1 ≤ Vx it:=by cases it <;> simp only [Vx] <;> omega
    obtain ⟨n',rfl⟩:∃ n',n = n' + 1:=⟨n - 1,by omega⟩
    have bp:=byI_pos it
    have dl:=congrArg List.length dr
    simp only [List.length_append] at dl
    rw [spl,dr] at pr3
    obtain ⟨_,pr4⟩:=pr3.app
    rw [List.append_assoc] at pr4
    obtain ⟨pr5,pr6⟩:=pr4.app
    obtain ⟨pr7,_⟩:=pr6.app
    have pr5':=pr5.narrow (e':=A0 + (Zu ls es).length) (by omega)
    have pr7':=pr7.narrow (e':=A0 + (Zu ls es).length) (by omega)
    refine Yp (decide_eq_true (by omega)) ⟨fun σ' H' => ∃ m',m' < es.length - i∧_,fun σ' H' h => h, ?_⟩
    refine ⟨_,rfl,_,rfl,_,rfl,r,sA,bs,_,_,st,lb,lab,rfl,d4,pr5',hls,bw1,fun H5 k5 d5 => ?_⟩
    refine ⟨_,rfl,_,rfl,_,_,rfl,rfl,r,sA,bs,_,_,d + 1,it,rfl,d5,pr7',gde,by omega,by omega,by omega,fun v H6 k6 d6 i6 => ?_⟩
    have k46:=k5.trans k6
    have hl6:H6 l = some (.lst zs):=k46 _ _ (d4.ne hl4) hl4
    have zlt:zs.length < sizeLine:=by
     refine Nat.lt_of_le_of_lt (show _ ≤ 1000000 from ?_) (by decide)
     have:=byIs_many ls es hl
     omega
    have fin:∀ (z:V) (H7:Hp),Zb H6 H7→Yv K H7 (prtD lb (toD it)) z→∃ m',m' < es.length - i∧∃ i' zs' lab' o8',m' = es.length - i'∧i' ≤ es.length∧([some (.ref r),some (.int d),some (.int ((st + 2:Nat):Int)),some (.str (srt st)),none,some (.ref l),some (lbV lb),some (.int e),some v]:L2.St) = [some (.ref r),some (.int d),some (.int ((st + 2:Nat):Int)),some (.str (srt st)),none,some (.ref l),some lab',some (.int e),o8']∧Kp r H (Z4 H7 l (.lst (zs ++ [z])))∧Rd K C r sA bs (Z4 H7 l (.lst (zs ++ [z]))) (A0 + (Zu (ls.take i') (es.take i')).length) (A0 + (Zu ls es).length)∧Z4 H7 l (.lst (zs ++ [z])) l = some (.lst zs')∧zs'.length = i'∧Zn K (Z4 H7 l (.lst (zs ++ [z]))) (Y1 (ls.take i') (toDs (es.take i'))) zs'∧(∀ lb,ls[i']? = some lb→Below lab' lb):=fun z H7 s7 i7 => by
     have hl7:=s7 _ _ hl6
     have d7:=d6.same s7
     obtain ⟨dx7,h7,_⟩:=d7.ex
     have kk:Kp r H (Z4 H7 l (.lst (zs ++ [z]))):=fun y o n h' => by
      rw [Zh (Zl h' hnl)]
      exact ((k4.trans k46).trans (Kp.same s7)) y o n h'
     have up7:Up K H7 (Z4 H7 l (.lst (zs ++ [z]))):=Bk.up (b:=l) (ys:=zs) (zs:=zs ++ [z]) ⟨fun x o n h => by rw [Zh n]; exact h,Zq⟩ hl7
     have up4:=(d4.up (k46.trans (Kp.same s7))).trans up7
     refine ⟨es.length - (i + 1),by omega,i + 1,zs ++ [z],lbV lb,some v,rfl,hlt,rfl,kk,hd.keep kk ⟨dx7, ?_⟩,Zq,by rw [List.length_append,List.length_singleton,zl], ?_,bwn⟩
     ·rw [Zh (d7.ne hl7).symm,h7,tk,List.length_append,List.length_append]
      simp only [Nat.add_assoc]
     ·rw [pt]
      exact areD_snoc (Zn.up up4 _ _ (Uy _ _) ar) (Yv.up up7 _ _ (noLs_mem (Uy [lb] [it]) List.mem_cons_self) i7)
    refine ⟨_,rfl,.inl ⟨rfl,_,Ym.of hl6⟩,_,rfl,rfl,_,rfl, ?_⟩
    rcases hls with ⟨rfl,rfl⟩ | ⟨rfl,x',rfl,nx⟩ | ⟨rfl,n'',rfl,n0,n1⟩
    ·exact Yp (by decide +kernel) ⟨_,rfl,l,_,_,rfl,rfl,hl6,zlt,fin v H6 (Zb.refl H6) i6⟩
    ·refine Yq (by decide +kernel) ⟨_,rfl,_,rfl,(sz 2),fun p hp => ?_⟩
     have s7:=Zb.lay (o:=.tup [.str x',v]) hp
     exact ⟨l,_,_,rfl,rfl,s7 _ _ hl6,zlt,fin (.ref p) _ s7 (mkD2 (Z9.of Zq) rfl (Yv.up s7.up _ _ (Z7 it) i6))⟩
    ·refine Yq (by decide +kernel) ⟨_,rfl,_,rfl,(sz 2),fun p hp => ?_⟩
     have s7:=Zb.lay (o:=.tup [.int n'',v]) hp
     exact ⟨l,_,_,rfl,rfl,s7 _ _ hl6,zlt,fin (.ref p) _ s7 (mkD2 (Z9.of Zq) rfl (Yv.up s7.up _ _ (Z7 it) i6))⟩
   ·have ei:i = es.length:=by omega
    subst ei
    rw [List.take_length, ← hl,List.take_length] at d4 ar
    rw [List.take_length, ← hl,List.take_length]
    refine Yq (decide_eq_false (by omega)) ?_
    refine ⟨_,rfl,r,dx4,_,rfl,h4,rfl,_,rfl,r,sA,bs,_,_,e,rfl,d4,fun H5 k5 d5 => ?_⟩
    have hl5:H5 l = some (.lst zs):=k5 _ _ (d4.ne hl4) hl4
    have ar5:=Zn.up (d4.up k5) _ _ (Uy ls es) ar
    refine ⟨_,rfl,_,rfl,l,zs,rfl,.inl ⟨Ym.of hl5,fun p1 hp1 => ?_⟩⟩
    have s6:=Zb.lay (o:=.tup zs) hp1
    refine ⟨(sz 2),fun p2 hp2 => ?_⟩
    have s7:=Zb.lay (o:=.tup [.str (srt st),.ref p1]) hp2
    have s67:=s6.trans s7
    refine q _ _ ((k4.trans k5).trans (Kp.same s67)) ?_ (mkD2 (Z9.of Zq) rfl ⟨p1,zs,rfl,Z9.of (s7 _ _ Zq),Zn.up s67.up _ _ (Uy ls es) ar5⟩)
    have:a + (Zi (.lst st ls es)).length = A0 + (Zu ls es).length:=by omega
    rw [this]; exact d5.same s67
def spBetween (K:W.Frag) (N:Nat):Sp:=fun vs H Q _ => ∃ (sA:Addr) (bs:List Int) (p:Nat) (it:IT),vs = [.ref sA,.int (p:Int),.int ((p + (Zi it).length:Nat):Int)]∧Z9 K H sA (bv bs)∧(∃ Vz,bs.drop p = Zi it ++ Vz)∧GdI it∧Vx it ≤ N + 1∧Vx it ≤ 100∧(Zi it).length ≤ 1000000∧∀ v H',Zb H H'→Yv K H' (toD it) v→Q v H'
theorem ok_between {N:Nat} (F:Uj K "unpacked_between" "unpacked_between" V3 f fd) (co:RdOk K C) (g_Reader:CFn P w K mg base 1 C "Reader" ["self","source","at","end"] (spInit K C)) (g_next_item:Fn P w K mg base (N + 6) "next_item" ["reader","deep"] (spNItem K C (N + 1))) :
  Yy P w K mg base Um (N + 7) f fd ["file","begin","end"] (spBetween K N):=by
 refine F.ok Vr (fun vs H Q E h => ?_) (fun cdv A outer s H vs Q E hr h => ?_)
 ·obtain ⟨sA,bs,p,it,rfl,_⟩:=h
  rfl
 obtain ⟨sA,bs,p,it,rfl,hs,hat,gd,dp,dh,lb,q⟩:=h
 refine ⟨_,(@Zj _ _ _ _ _ (@Zy _ 3 _ _ _ _ _ Vr.nd rfl (by trivial) (@pe_makeF _ _ _ _ _ _ _ _ _ _ _ g_Reader hr.m rfl (Zg (pv 0) (Zg (pv 1) (Zg (pv 2) Zz rfl) rfl) rfl) (by decide) rfl rfl) rfl (by trivial)) (@Zj _ _ _ _ _ (@Zy _ 4 _ _ _ _ _ Vr.nd rfl (by trivial) (@Zw _ _ _ _ _ _ _ _ _ _ g_next_item hr.m rfl (Zg (pv 3) (Zg Zx Zz rfl) rfl) (by decide) rfl rfl) rfl (by trivial)) (@Zj _ _ _ _ _ (@Z8 _ _ _ _ _ _ _ _ (@Zm _ _ _ _ _ _ _ _ op_lt (@pe_fld _ _ _ _ _ (pv 3) rfl) (pv 2) (Zt _)) (@pss_never _ _) Za) (@Zv _ _ _ (@Zd _ _ _ _ (pv 4)))))), ?_⟩
 refine ⟨_,rfl,_,rfl,_,rfl,fun r dx hr0 hdx ne => ?_⟩
 refine ⟨r,dx,_,_,_,rfl,Zq,rfl, ?_⟩
 rw [upd_upd,upd_upd,upd_upd]
 have s1:Zb H (Z4 (Z4 H dx (.own r)) r (.ins C dx (fsR (.ref sA) p (p + (Zi it).length)))):=fun y o h' => by
  rw [Zh (Zl h' hr0),Zh (Zl h' hdx)]
  exact h'
 have d1:Rd K C r sA bs (Z4 (Z4 H dx (.own r)) r (.ins C dx (fsR (.ref sA) p (p + (Zi it).length)))) p (p + (Zi it).length):=⟨dx,Zq,.inr (s1.up _ _ hs)⟩
 refine ⟨_,rfl,r,sA,bs,p,p + (Zi it).length,1,it,rfl,d1,⟨hat,Nat.le_refl _⟩,gd,dp,by omega,lb,fun v H2 k2 d2 i2 => ?_⟩
 obtain ⟨dx2,h2,_⟩:=d2.ex
 refine ⟨_,rfl,r,C,dx2,_,_,rfl,h2,co.cl,co.at',rfl,_,rfl,_,_,rfl,rfl,_,rfl,Yq (decide_eq_false (by omega)) ?_⟩
 exact ⟨_,rfl,q v H2 (fun y o h' => k2 y o (Zl h' hr0) (s1 y o h')) i2⟩
end
abbrev s_law_wrapped:Stmt:=top 54
abbrev N_law_wrapped:List Str:=["_law_item_here","_law_word","_law_many","_law_k"]
theorem Y7:Zs N_law_wrapped ["_law_item_here","_law_word","_law_many"] (Zk s_law_wrapped):=by trivial
def spWrapped (K:W.Frag):Sp:=fun vs H Q _ => ∃ v word many it,vs = [v,.int word,.int many]∧Yv K H (toD it) v∧GdI it∧0 ≤ word∧word ≤ 3∧0 ≤ many∧many ≤ 30∧∀ u e H',Zb H H'→Yv K H' (toD e) u→GdI e→Vx e ≤ Vx it + many.toNat→(Zi e).length ≤ (Zi it).length + 3000→Q u H'
theorem ab_ok:(∀ x ∈ (["a","b"]:List Str),V6 x)∧adj ltS ["a","b"]:=by
 refine ⟨by decide +kernel, ?_,trivial⟩
 show (Str.cps "a").toList < (Str.cps "b").toList
 decide +kernel
theorem lnB_mono {k:Nat} (h:k ≤ 5):lnB k ≤ 36300:=by
 match k,h with
 | 0,_ => decide
 | 1,_ => decide
 | 2,_ => decide
 | 3,_ => decide
 | 4,_ => decide
 | 5,_ => decide
section
variable {P:Program} {w:World} {K:W.Frag} {mg:Str→Option Value} {base:Heap} {f:Addr} {fd:FuncData}
theorem ok_wrapped (F:Uj K "_law_wrapped" "_law_wrapped" s_law_wrapped f fd) (m:Bn mg):Yy P w K mg base Um 1 f fd ["_law_item_here","_law_word","_law_many"] (spWrapped K):=by
 refine F.ok Y7 (fun vs H Q E h => ?_) (fun cdv A outer s H vs Q E hr h => ?_)
 ·obtain ⟨v,_,_,_,rfl,_⟩:=h
  rfl
 obtain ⟨v,word,many,it,rfl,hd,gd,w0,w4,m0,m1,q⟩:=h
 refine ⟨_,(@Zj _ _ _ _ _ (@ps_for _ _ _ _ _ _ _ _ PassesOwn.never rfl (@Vy _ _ _ _ _ _ rfl m.range (Zg (pv 2) Zz rfl) (by trivial)) (@Z0 _ 3 _ _ Y7.nd rfl (Or.inl rfl) (by trivial)) (@Zv _ _ _ (@Z8 _ _ _ _ _ _ _ _ (@Zm _ _ _ _ _ _ _ _ Yf (pv 1) Zx (Zt _)) (@Zv _ _ _ (@Zy _ 0 _ _ _ _ _ Y7.nd rfl (by trivial) (@Z3 _ _ _ _ _ (Zg Zc (Zg (@Zf _ _ _ _ _ _ _ _ Z1 Zx (@Zf _ _ _ _ _ _ _ _ Vu (pv 3) Zx)) (Zg (pv 0) Zz rfl) rfl) rfl)) rfl (by trivial))) (@Zv _ _ _ (@Z8 _ _ _ _ _ _ _ _ (@Zm _ _ _ _ _ _ _ _ Yf (pv 1) Zx (Zt _)) (@Zv _ _ _ (@Zy _ 0 _ _ _ _ _ Y7.nd rfl (by trivial) (@Z3 _ _ _ _ _ (Zg Zc (Zg (@Z3 _ _ _ _ _ (Zg (pv 0) Zz rfl)) Zz rfl) rfl)) rfl (by trivial))) (@Zv _ _ _ (@Z8 _ _ _ _ _ _ _ _ (@Zm _ _ _ _ _ _ _ _ Yf (pv 1) Zx (Zt _)) (@Zv _ _ _ (@Zy _ 0 _ _ _ _ _ Y7.nd rfl (by trivial) (@Z3 _ _ _ _ _ (Zg Zc (Zg (@Z3 _ _ _ _ _ (Zg (@Z3 _ _ _ _ _ (Zg (@Zf _ _ _ _ _ _ _ _ Z1 (pv 3) Zx) (Zg (pv 0) Zz rfl) rfl)) Zz rfl)) Zz rfl) rfl)) rfl (by trivial))) (@Zv _ _ _ (@Zy _ 0 _ _ _ _ _ Y7.nd rfl (by trivial) (@Z3 _ _ _ _ _ (Zg Zc (Zg (@Z3 _ _ _ _ _ (Zg (@Z3 _ _ _ _ _ (Zg Zc (Zg (@Z3 _ _ _ _ _ (Zg Zc (Zg (pv 3) Zz rfl) rfl)) Zz rfl) rfl)) (Zg (@Z3 _ _ _ _ _ (Zg Zc (Zg (pv 0) Zz rfl) rfl)) Zz rfl) rfl)) Zz rfl) rfl)) rfl (by trivial))))))))) (by trivial)) (@Zv _ _ _ (@Zd _ _ _ _ (pv 0)))), ?_⟩
 refine ⟨_,rfl,many,rfl,by omega,by omega,for_range (n:=many.toNat) (fun i σ H2 => ∃ (u:V) (e:IT) (o:Option V),σ = [some u,some (.int word),some (.int many),o]∧Zb H H2∧Yv K H2 (toD e) u∧GdI e∧Vx e ≤ Vx it + i∧(Zi e).length ≤ (Zi it).length + 100 * i)
  ⟨v,it,_,rfl,Zb.refl H,hd,gd,by omega,by omega⟩ ?_ ?_⟩
 ·rintro i σ H2 hlt ⟨u,e,o,rfl,s2,du,ge,de,le⟩
  have hi34:i < 34:=by omega
  have i1:1 ≤ Vx it:=by cases it <;> simp only [Vx] <;> omega
  refine ⟨_,rfl,rfl,_,rfl, ?_⟩
  refine ite2 (fun c => ?_) (fun c => ?_)
  ·refine ⟨_,rfl,_,_,rfl,rfl,(by show (0:Int) < 999; decide),_,_,rfl,rfl,_,rfl,(sz 3),fun p hp => ?_⟩
   have ll:=Y8 (1 + (0 + (i:Int)) % 999)
   refine ⟨_,.arm (1 + (0 + (i:Int)) % 999) e,_,rfl,s2.put (s2.free hp),mkD3 (Z9.of Zq) rfl rfl (Yv.up (Yk hp) _ _ (Z7 e) du),⟨by omega,by omega,ge⟩,by simp only [Vx]; omega, ?_⟩
   simp only [Zi,List.length_cons,List.length_append]; omega
  ·refine ⟨_,rfl,rfl,_,rfl, ?_⟩
   refine ite2 (fun c1 => ?_) (fun c1 => ?_)
   ·refine ⟨_,rfl,(sz 1),fun p1 hp1 => ?_⟩
    refine ⟨(sz 2),fun p hp => ?_⟩
    have s3:=s2.put (o:=.tup [u]) (s2.free hp1)
    have n1:p1 ≠ p:=Zl Zq hp
    have ll:=Y8 ((Zu [.no] [e]).length:Int)
    refine ⟨_,.lst 0 [.no] [e],_,rfl,s3.put (s3.free hp),mkD2 (Z9.of Zq) rfl ⟨p1,_,rfl,Z9.of (by rw [Zh n1]; exact Zq),Zn.one (Yv.up ((Yk hp1).trans (Yk hp)) _ _ (Z7 e) du)⟩,⟨by omega,rfl,fun l m => by simpa using m,ge,trivial⟩,by simp only [Vx,dpIs]; omega, ?_⟩
    simp only [Zi,Zu,lbB,List.length_cons,List.length_append,List.length_nil] at ll ⊢; omega
   ·refine ⟨_,rfl,rfl,_,rfl, ?_⟩
    refine ite2 (fun c2 => ?_) (fun c2 => ?_)
    ·refine ⟨_,rfl,_,_,rfl,rfl,_,rfl,(sz 2),fun p2 hp2 => ?_⟩
     refine ⟨(sz 1),fun p1 hp1 => ?_⟩
     refine ⟨(sz 2),fun p hp => ?_⟩
     have s3:=s2.put (o:=.tup [.int (0 + (i:Int) + 1),u]) (s2.free hp2)
     have s4:=s3.put (o:=.tup [.ref p2]) (s3.free hp1)
     have n1:p1 ≠ p:=Zl Zq hp
     have n2:p2 ≠ p1:=Zl Zq hp1
     have n3:p2 ≠ p:=Zl (by rw [Zh n2]; exact Zq) hp
     have ll:=Y8 ((Zu [.num (0 + (i:Int) + 1)] [e]).length:Int)
     have l2:=Y8 (0 + (i:Int) + 1)
     refine ⟨_,.lst 2 [.num (0 + (i:Int) + 1)] [e],_,rfl,s4.put (s4.free hp),mkD2 (Z9.of Zq) rfl ⟨p1,_,rfl,Z9.of (by rw [Zh n1]; exact Zq),Zn.one (mkD2 (Z9.of (by rw [Zh n3,Zh n2]; exact Zq)) rfl (Yv.up (((Yk hp2).trans (Yk hp1)).trans (Yk hp)) _ _ (Z7 e) du))⟩,⟨by omega,rfl,⟨[0 + (i:Int) + 1],rfl,fun n m => by rw [List.mem_singleton.mp m]; omega,by simp⟩,ge,trivial⟩,by simp only [Vx,dpIs]; omega, ?_⟩
     simp only [Zi,Zu,lbB,List.length_cons,List.length_append,List.length_nil] at ll ⊢; omega
    ·refine ⟨_,rfl,(sz 2),fun p4 hp4 => ?_⟩
     refine ⟨(sz 2),fun p3 hp3 => ?_⟩
     refine ⟨_,rfl,(sz 2),fun p2 hp2 => ?_⟩
     refine ⟨(sz 2),fun p1 hp1 => ?_⟩
     refine ⟨(sz 2),fun p hp => ?_⟩
     have s3:=s2.put (o:=.tup [.str "whole",.int (0 + (i:Int))]) (s2.free hp4)
     have s4:=s3.put (o:=.tup [.str "a",.ref p4]) (s3.free hp3)
     have s5:=s4.put (o:=.tup [.str "b",u]) (s4.free hp2)
     have s6:=s5.put (o:=.tup [.ref p3,.ref p2]) (s5.free hp1)
     have u4:=Yk (K:=K) (o:=.tup [.str "whole",.int (0 + (i:Int))]) hp4
     have u3:=Yk (K:=K) (o:=.tup [.str "a",.ref p4]) hp3
     have u2:=Yk (K:=K) (o:=.tup [.str "b",u]) hp2
     have u1:=Yk (K:=K) (o:=.tup [.ref p3,.ref p2]) hp1
     have u0:=Yk (K:=K) (o:=.tup [.str "map",.ref p1]) hp
     have ll:=Y8 ((Zu [.key "a",.key "b"] [.whole (0 + (i:Int)),e]).length:Int)
     have l2:=sgB_len "a"
     have l3:=sgB_len "b"
     have l4:=Y8 (V8 (0 + (i:Int)))
     have a1:Str.length "a" = 1:=by decide +kernel
     have b1:Str.length "b" = 1:=by decide +kernel
     refine ⟨_,.lst 1 [.key "a",.key "b"] [.whole (0 + (i:Int)),e],_,rfl,s6.put (s6.free hp),mkD2 (Z9.of Zq) rfl ⟨p1,_,rfl,u0 _ _ (Z9.of Zq),Zn.two (mkD2 (u0 _ _ (u1 _ _ (u2 _ _ (Z9.of Zq)))) rfl (mkD2 (u0 _ _ (u1 _ _ (u2 _ _ (u3 _ _ (Z9.of Zq))))) rfl rfl))
      (mkD2 (u0 _ _ (u1 _ _ (Z9.of Zq))) rfl (Yv.up ((((u4.trans u3).trans u2).trans u1).trans u0) _ _ (Z7 e) du))⟩,⟨by omega,rfl,⟨["a","b"],rfl,ab_ok.1,ab_ok.2⟩,⟨by omega,by omega⟩,ge,trivial⟩,by simp only [Vx,dpIs]; omega, ?_⟩
     simp only [Zi,Zu,lbB,List.length_cons,List.length_append,List.length_nil] at ll ⊢; omega
 ·rintro σ H2 ⟨u,e,o,rfl,s2,du,ge,de,le⟩
  exact ⟨_,rfl,q u e H2 s2 du ge (by omega) (by omega)⟩
theorem areInts {H:Hp}:∀ xs:List Int,Zn K H (xs.map D.int) (bv xs)
 | [] => rfl
 | x :: xs => ⟨.int x,bv xs,rfl,rfl,areInts xs⟩
theorem dpInts:∀ xs:List Int,dpDs (xs.map D.int) = 0
 | [] => rfl
 | x :: xs => by
  have:=dpInts xs
  simp only [List.map_cons,dpDs,dpD,this]
  rfl
mutual
theorem dp_toD:∀ it:IT,dpD (toD it) ≤ 3 * Vx it
 | .whole _ => by simp only [toD,dpD,dpDs,Vx]; omega
 | .text _ => by simp only [toD,dpD,dpDs,Vx]; omega
 | .arm n e => by
  have:=dp_toD e
  simp only [toD,dpD,dpDs,Vx]; omega
 | .lst s ls es => by
  have:=dp_prts ls es
  simp only [toD,dpD,dpDs,Vx]; omega
theorem dp_prts:∀ (ls:List Lb) (es:List IT),dpDs (Y1 ls (toDs es)) ≤ 3 * dpIs es + 1
 | [],_ => by simp [Y1,dpDs]
 | _ :: _,[] => by simp [toDs,Y1,dpDs]
 | l :: ls,e :: es => by
  have h1:=dp_toD e
  have h2:=dp_prts ls es
  cases l <;> simp only [toDs,Y1,prtD,dpD,dpDs,dpIs] <;> omega
end
end
abbrev s_behind_long:Stmt:=top 6
abbrev N_behind_long:List Str:=["file","at"]
theorem sc_behind_long:Zs N_behind_long ["file","at"] (Zk s_behind_long):=by trivial
abbrev s_long_at:Stmt:=top 7
abbrev N_long_at:List Str:=["file","at","n","figure"]
theorem sc_long_at:Zs N_long_at ["file","at"] (Zk s_long_at):=by trivial
abbrev s_behind_item:Stmt:=top 45
abbrev N_behind_item:List Str:=["file","at","behind"]
theorem sc_behind_item:Zs N_behind_item ["file","at"] (Zk s_behind_item):=by trivial
theorem bvAt {bs:List Int} {j:Nat} {x:Int} (h:bs[j]? = some x):(bv bs)[j]? = some (.int x):=by rw [bv,List.getElem?_map,h]; rfl
def unL (l:List Int):Int:=l.reverse.foldl (fun n b => n * 128 + b % 128) 0
theorem unL_cons (b:Int) (l:List Int):unL (b :: l) = unL l * 128 + b % 128:=by
 unfold unL
 rw [List.reverse_cons,List.foldl_append]
 rfl
theorem unL_Lf:∀ (k:Nat) (n:Int),0 ≤ n→n < 128 ^ (k + 1)→unL (Lf k n) = n:=by
 intro k
 induction k with
 | zero =>
  intro n h0 h1
  have h1:n < 128:=by simpa using h1
  rw [Ve 0 h1]
  show 0 * 128 + n % 128 = n
  omega
 | succ k ih =>
  intro n h0 h1
  by_cases c:128 ≤ n
  ·rw [Lf_big k c,unL_cons,ih (n / 128) (by omega) (div_lt h1)]
   omega
  ·rw [Ve (k + 1) (by omega)]
   show 0 * 128 + n % 128 = n
   omega
theorem foldr_bytes (l:List Int):∀ n:Int,0 ≤ n→0 ≤ l.foldl (fun n b => n * 128 + b % 128) n:=by
 induction l with
 | nil => intro n h; exact h
 | cons b l ih => intro n h; exact ih _ (by show 0 ≤ n * 128 + b % 128; omega)
theorem fold_take {l:List Int} {i:Nat} {b:Int} (h:l[i]? = some b):(l.take (i + 1)).foldl (fun n b => n * 128 + b % 128) (0:Int) = (l.take i).foldl (fun n b => n * 128 + b % 128) 0 * 128 + b % 128:=by
 have hi:i < l.length:=(List.getElem?_eq_some_iff.mp h).1
 rw [List.take_succ,h,List.foldl_append]
 rfl
theorem cut_nat (xs:List V) {a b:Nat} (h:a ≤ b) (hb:b ≤ xs.length):Yr xs (some (a:Int)) (some (b:Int)) = (xs.drop a).take (b - a):=by
 unfold Yr
 rw [HT.sIx_nat,HT.sIx_nat,Nat.min_eq_left hb,Nat.min_eq_left (Nat.le_trans h hb)]
theorem pre_cut {bs xs:List Int} {a e:Nat} (p:Pre bs a e xs) (he:a + xs.length ≤ bs.length):Yr (bv bs) (some (a:Int)) (some ((a + xs.length:Nat):Int)) = bv xs:=by
 obtain ⟨⟨r,h⟩,_⟩:=p
 rw [cut_nat _ (by omega) (by rw [Yj]; omega),bv, ← List.map_drop,h,List.map_append,show a + xs.length - a = (xs.map V.int).length by rw [List.length_map]; omega,List.take_left]
 rfl
theorem Pre.le {bs xs:List Int} {a e:Nat} (p:Pre bs a e xs) (hx:xs ≠ []):a + xs.length ≤ bs.length:=by
 obtain ⟨⟨r,h⟩,_⟩:=p
 have z:=congrArg List.length h
 rw [List.length_drop,List.length_append] at z
 have:1 ≤ xs.length:=by cases xs with
  | nil => exact absurd rfl hx
  | cons x xs => rw [List.length_cons]; omega
 omega
theorem Lf_ne (k:Nat) (n:Int):Lf k n ≠ []:=by
  cases k with
  | zero => unfold Lf; simp
  | succ k => by_cases c : 128 ≤ n
              · rw [Lf_big k c]; simp
              · rw [Ve _ (by omega)]; simp
def LgAt (bs:List Int) (at':Nat) (n:Int):Prop:=(∃ Vz,bs.drop at' = Lg n ++ Vz)∧0 ≤ n∧n ≤ 10000000000000000000
def spBL (K:W.Frag):Sp:=fun vs H Q _ => ∃ (a:Addr) (bs:List Int) (p:Nat) (n:Int),vs = [.ref a,.int p]∧Z9 K H a (bv bs)∧LgAt bs p n∧Q (.int ((p + (Lg n).length:Nat):Int)) H
def spLA (K:W.Frag):Sp:=fun vs H Q _ => ∃ (a:Addr) (bs:List Int) (p:Nat) (n:Int),vs = [.ref a,.int p]∧Z9 K H a (bv bs)∧LgAt bs p n∧∀ H',Zb H H'→Q (.int n) H'
section
variable {P:Program} {w:World} {K:W.Frag} {mg:Str→Option Value} {base:Heap} {f:Addr} {fd:FuncData}
theorem ok_bl (F:Uj K "behind_long" "behind_long" s_behind_long f fd):Yy P w K mg base Um 1 f fd ["file","at"] (spBL K):=by
 refine F.ok sc_behind_long (fun vs H Q E h => ?_) (fun cdv A outer s H vs Q E hr h => ?_)
 ·obtain ⟨a,bs,p,n,rfl,_⟩:=h
  rfl
 obtain ⟨a,bs,p0,n,rfl,hS,⟨⟨Vz,hx⟩,h0,h1⟩,q⟩:=h
 have hp:Pre bs p0 (p0 + (Lg n).length) (Lg n):=⟨⟨Vz,hx⟩,Nat.le_refl _⟩
 refine ⟨_,(@Zj _ _ _ _ _ (@ps_while _ _ _ _ _ _ PassesOwn.never (@Zm _ _ _ _ _ _ _ _ op_ge (@Zr _ _ _ _ _ _ _ Zp (pv 0) (pv 1) (fun _ _ => rfl)) Zx (Zt _)) (@Zv _ _ _ (@Zy _ 1 _ _ _ _ _ sc_behind_long.nd rfl (by trivial) (@Zf _ _ _ _ _ _ _ _ Z1 (pv 1) Zx) rfl (by trivial)))) (@Zv _ _ _ (@Zd _ _ _ _ (@Zf _ _ _ _ _ _ _ _ Z1 (pv 1) Zx)))), ?_⟩
 refine ⟨fun μ σ H1 => H1 = H∧∃ (p k:Nat) (x:Int),μ = p0 + (Lg n).length - p∧σ = [some (.ref a),some (.int (p:Int))]∧p + (Lf k x).length = p0 + (Lg n).length∧Pre bs p (p0 + (Lg n).length) (Lf k x)∧0 ≤ x∧x < 128 ^ (k + 1),
  ⟨_,rfl,p0,19,n,rfl,rfl,rfl,hp,h0,lt20 h1⟩, ?_⟩
 rintro μ σ H1 ⟨rfl,p,k,x,rfl,rfl,el,pr,x0,xk⟩
 have e1:(p:Int) + 1 = ((p + 1:Nat):Int):=by omega
 by_cases c:128 ≤ x
 ·obtain ⟨j,rfl⟩:=more c xk
  rw [Lf_big j c] at pr el
  obtain ⟨gb,lt,pr'⟩:=pr.cons
  rw [List.length_cons] at el
  refine ⟨_,rfl,_,rfl,a,_,_,_,rfl,rfl,hS,atI_nat (bvAt gb),_,_,rfl,rfl,_,rfl,Yp (decide_eq_true (show (128:Int) ≤ x % 128 + 128 by omega)) ⟨fun σ' H' => ∃ m',m' < p0 + (Lg n).length - p∧_,fun σ' H' h => h, ?_⟩⟩
  refine ⟨_,rfl,_,_,rfl,rfl, ?_⟩
  refine ⟨p0 + (Lg n).length - (p + 1),by omega,rfl,p + 1,j,x / 128,rfl, ?_,by omega,pr',by omega,div_lt xk⟩
  show [some (V.ref a),some (V.int ((p:Int) + 1))] = _
  rw [e1]
 ·have c':x < 128:=by omega
  rw [Ve k c'] at pr el
  obtain ⟨gb,lt,_⟩:=pr.cons
  rw [List.length_singleton] at el
  refine ⟨_,rfl,_,rfl,a,_,_,_,rfl,rfl,hS,atI_nat (bvAt gb),_,_,rfl,rfl,_,rfl,Yq (decide_eq_false (show ¬ (128:Int) ≤ x by omega)) ?_⟩
  refine ⟨_,rfl,_,_,rfl,rfl, ?_⟩
  show Q (.int ((p:Int) + 1)) H1
  rw [e1,el]
  exact q
theorem ok_la (F:Uj K "long_at" "long_at" s_long_at f fd) (m:Bn mg) (g_behind_long:Fn P w K mg base 1 "behind_long" ["file","at"] (spBL K)):Yy P w K mg base Um 2 f fd ["file","at"] (spLA K):=by
 refine F.ok sc_long_at (fun vs H Q E h => ?_) (fun cdv A outer s H vs Q E hr h => ?_)
 ·obtain ⟨a,bs,p,n,rfl,_⟩:=h
  rfl
 obtain ⟨a,bs,p0,n,rfl,hS,la,q⟩:=h
 obtain ⟨⟨Vz,hx⟩,h0,h1⟩:=id la
 have hp:Pre bs p0 (p0 + (Lg n).length) (Lg n):=⟨⟨Vz,hx⟩,Nat.le_refl _⟩
 refine ⟨_,(@Zj _ _ _ _ _ (@Zy _ 2 _ _ _ _ _ sc_long_at.nd rfl (by trivial) Zx rfl (by trivial)) (@Zj _ _ _ _ _ (@ps_for _ _ _ _ _ _ _ _ PassesOwn.never rfl (@pi_rev _ _ _ _ _ _ rfl m.reversed (Zg (@pe_slice _ _ _ _ _ _ _ _ _ _ sl_tupG (pv 0) (@po_some _ _ _ (pv 1)) (@po_some _ _ _ (@Zw _ _ _ _ _ _ _ _ _ _ g_behind_long hr.m rfl (Zg (pv 0) (Zg (pv 1) Zz rfl) rfl) (by decide) rfl rfl))) Zz rfl) rfl rfl) (@Z0 _ 3 _ _ sc_long_at.nd rfl (Or.inl rfl) (by trivial)) (@Zv _ _ _ (@Zy _ 2 _ _ _ _ _ sc_long_at.nd rfl (by trivial) (@Zf _ _ _ _ _ _ _ _ Z1 (@Zf _ _ _ _ _ _ _ _ Vp (pv 2) Zx) (@Zf _ _ _ _ _ _ _ _ Vu (pv 3) Zx)) rfl (by trivial))) (by trivial)) (@Zv _ _ _ (@Zd _ _ _ _ (pv 2))))), ?_⟩
 refine ⟨_,rfl,_,rfl,_,rfl,_,rfl,_,rfl,a,bs,p0,n,rfl,hS,la,_,rfl,a,_,rfl,hS,fun c H2 s2 hc => ?_⟩
 rw [pre_cut hp (hp.le (Lf_ne 19 n))] at hc
 refine ⟨c,_,rfl,hc,for_rev (xs:=bv (Lg n)) (fun i σ H3 => H3 = H2∧∃ o,σ = [some (.ref a),some (.int (p0:Int)),some (.int (((Lg n).reverse.take i).foldl (fun n b => n * 128 + b % 128) 0)),o]) ⟨rfl,_,rfl⟩ ?_ ?_ ?_⟩
 ·rintro i σ H3 hi ⟨rfl,_⟩
  exact hc
 ·rintro i x σ H3 hi ⟨rfl,o,rfl⟩
  rw [bv, ← List.map_reverse,List.getElem?_map] at hi
  obtain ⟨b,hb,rfl⟩:=Option.map_eq_some_iff.mp hi
  have nn:=foldr_bytes ((Lg n).reverse.take i) 0 (Int.le_refl _)
  refine ⟨_,rfl,_,_,rfl,rfl,.inr ⟨by decide,by decide⟩,_,rfl,_,_,rfl,rfl,(by show (0:Int) < 128; decide),_,_,rfl,rfl, ?_⟩
  refine ⟨rfl,some (.int b), ?_⟩
  rw [fold_take hb]
  rfl
 ·rintro σ H3 ⟨rfl,o,rfl⟩
  refine ⟨_,rfl, ?_⟩
  have e:((Lg n).reverse.take (bv (Lg n)).length).foldl (fun n b => n * 128 + b % 128) 0 = n:=by
   rw [Yj, ← List.length_reverse,List.take_length]
   exact unL_Lf 19 n h0 (lt20 h1)
  show Q (.int (((Lg n).reverse.take (bv (Lg n)).length).foldl (fun n b => n * 128 + b % 128) 0)) H3
  rw [e]
  exact q H3 s2
end
abbrev s_room_parts:Stmt:=top 42
abbrev N_room_parts:List Str:=["file","at","sort","begin","end","parts","place","label"]
theorem Yi:Zs N_room_parts ["file","at"] (Zk s_room_parts):=by trivial
abbrev s_behind_label:Stmt:=top 43
abbrev N_behind_label:List Str:=["file","at","sort"]
theorem sc_behind_label:Zs N_behind_label ["file","at","sort"] (Zk s_behind_label):=by trivial
inductive Sk:List Int→Prop
 | who (n:Int) (h0:0 ≤ n) (h1:n ≤ 10000000000000000000):Sk (0 :: Lg n)
 | szd (k:Nat) (h0:1 ≤ k) (h1:k ≤ 4) (r:List Int) (hr:r.length ≤ 1000000):Sk ((k:Int) :: (Lg (r.length:Int) ++ r))
 | arm (n:Int) (h0:0 ≤ n) (h1:n ≤ 10000000000000000000) (r:List Int) (h:Sk r):Sk (5 :: (Lg n ++ r))
def At (bs:List Int) (p:Nat) (l:List Int):Prop:=∃ Vz,bs.drop p = l ++ Vz
theorem At.cons {bs:List Int} {p:Nat} {x:Int} {l:List Int} (h:At bs p (x :: l)):bs[p]? = some x∧At bs (p + 1) l:=by
 obtain ⟨r,h⟩:=h
 refine ⟨?_,r, ?_⟩
 ·have z:(bs.drop p)[0]? = some x:=by rw [h]; rfl
  rwa [List.getElem?_drop] at z
 ·rw [← List.drop_drop,h]; rfl
theorem At.app {bs:List Int} {p:Nat} {l l':List Int} (h:At bs p (l ++ l')):At bs p l∧At bs (p + l.length) l':=by
 obtain ⟨r,h⟩:=h
 refine ⟨⟨l' ++ r,by rw [h,List.append_assoc]⟩,r, ?_⟩
 rw [← List.drop_drop,h,List.append_assoc,List.drop_left]
theorem At.lg {bs:List Int} {p:Nat} {n:Int} (h:At bs p (Lg n)) (h0:0 ≤ n) (h1:n ≤ 10000000000000000000):LgAt bs p n:=⟨h,h0,h1⟩
theorem Sk.ne {l:List Int} (h:Sk l):1 ≤ l.length:=by cases h <;> (rw [List.length_cons]; omega)
def sorts:List Str:=["whole","text","row","map","rec","arm"]
theorem sorts_at {k:Nat} (h:k ≤ 5):∃ z,sorts[k]? = some z∧decide (V.str z = V.str "arm") = decide (k = 5)∧decide (V.str z = V.str "whole") = decide (k = 0)∧decide (V.str z = V.str "row") = decide (k = 2)∧decide (V.str z = V.str "map") = decide (k = 3)∧decide (V.str z = V.str "rec") = decide (k = 4):=by
 have z:∃ z,sorts[k]? = some z∧((z == "arm") = decide (k = 5))∧((z == "whole") = decide (k = 0))∧((z == "row") = decide (k = 2))∧((z == "map") = decide (k = 3))∧((z == "rec") = decide (k = 4)):=by
  match k,h with
  | 0,_ => exact ⟨"whole",rfl,by decide +kernel⟩
  | 1,_ => exact ⟨"text",rfl,by decide +kernel⟩
  | 2,_ => exact ⟨"row",rfl,by decide +kernel⟩
  | 3,_ => exact ⟨"map",rfl,by decide +kernel⟩
  | 4,_ => exact ⟨"rec",rfl,by decide +kernel⟩
  | 5,_ => exact ⟨"arm",rfl,by decide +kernel⟩
 have b2:∀ {x y:Str},decide (V.str x = V.str y) = (x == y):=fun {x y} => by
  by_cases e:x = y
  ·subst e; simp
  ·rw [decide_eq_false (by intro q; injection q with q; exact e q)]
   exact (beq_eq_false_iff_ne.mpr e).symm
 obtain ⟨s,h1,h2,h3,h4,h5,h6⟩:=z
 exact ⟨s,h1,by rw [b2]; exact h2,by rw [b2]; exact h3,by rw [b2]; exact h4,by rw [b2]; exact h5,by rw [b2]; exact h6⟩
def spBI (K:W.Frag):Sp:=fun vs H Q _ => ∃ (a:Addr) (bs:List Int) (p:Nat) (l:List Int),vs = [.ref a,.int p]∧Z9 K H a (bv bs)∧At bs p l∧Sk l∧∀ H',Zb H H'→Q (.int ((p + l.length:Nat):Int)) H'
section
variable {P:Program} {w:World} {K:W.Frag} {mg:Str→Option Value} {base:Heap} {f:Addr} {fd:FuncData} {aS:Addr}
theorem so_at {H:Hp} (so:Ub K aS) {k:Nat} {z:Str} (h:sorts[k]? = some z):atI (sorts.map V.str) ((k:Nat):Int) = some (.str z):=atI_nat (by rw [List.getElem?_map,h]; rfl)
theorem ok_bi (F:Uj K "behind_item" "behind_item" s_behind_item f fd) (so:Ub K aS) (x_SORTS:mg "SORTS" = some (.ref aS)) (g_behind_long:Fn P w K mg base 1 "behind_long" ["file","at"] (spBL K)) (g_long_at:Fn P w K mg base 2 "long_at" ["file","at"] (spLA K)) :
  Yy P w K mg base Um 3 f fd ["file","at"] (spBI K):=by
 refine F.ok sc_behind_item (fun vs H Q E h => ?_) (fun cdv A outer s H vs Q E hr h => ?_)
 ·obtain ⟨a,bs,p,n,rfl,_⟩:=h
  rfl
 obtain ⟨a,bs,p0,l0,rfl,hS,hat,hsk,q⟩:=h
 refine ⟨_,(@Zj _ _ _ _ _ (@ps_while _ _ _ _ _ _ PassesOwn.never (@Zm _ _ _ _ _ _ _ _ Yf (@Zr _ _ _ _ _ _ _ Zp (@Uk _ _ _ _ rfl x_SORTS (by decide)) (@Zr _ _ _ _ _ _ _ Zp (pv 0) (pv 1) (fun _ _ => rfl)) (fun _ _ => rfl)) Zc (Zt _)) (@Zv _ _ _ (@Zy _ 1 _ _ _ _ _ sc_behind_item.nd rfl (by trivial) (@Zw _ _ _ _ _ _ _ _ _ _ g_behind_long hr.m rfl (Zg (pv 0) (Zg (@Zf _ _ _ _ _ _ _ _ Z1 (pv 1) Zx) Zz rfl) rfl) (by decide) rfl rfl) rfl (by trivial)))) (@Zj _ _ _ _ _ (@Zy _ 2 _ _ _ _ _ sc_behind_item.nd rfl (by trivial) (@Zw _ _ _ _ _ _ _ _ _ _ g_behind_long hr.m rfl (Zg (pv 0) (Zg (@Zf _ _ _ _ _ _ _ _ Z1 (pv 1) Zx) Zz rfl) rfl) (by decide) rfl rfl) rfl (by trivial)) (@Zj _ _ _ _ _ (@Z8 _ _ _ _ _ _ _ _ (@Zm _ _ _ _ _ _ _ _ Yf (@Zr _ _ _ _ _ _ _ Zp (@Uk _ _ _ _ rfl x_SORTS (by decide)) (@Zr _ _ _ _ _ _ _ Zp (pv 0) (pv 1) (fun _ _ => rfl)) (fun _ _ => rfl)) Zc (Zt _)) (@Zv _ _ _ (@Zd _ _ _ _ (pv 2))) Za) (@Zv _ _ _ (@Zd _ _ _ _ (@Zf _ _ _ _ _ _ _ _ Z1 (pv 2) (@Zw _ _ _ _ _ _ _ _ _ _ g_long_at hr.m rfl (Zg (pv 0) (Zg (@Zf _ _ _ _ _ _ _ _ Z1 (pv 1) Zx) Zz rfl) rfl) (by decide) rfl rfl))))))), ?_⟩
 refine ⟨fun μ σ H1 => H1 = H∧∃ (p:Nat) (l:List Int) (o:Option V),μ = l.length∧σ = [some (.ref a),some (.int (p:Int)),o]∧p + l.length = p0 + l0.length∧At bs p l∧Sk l,
  ⟨_,rfl,p0,l0,_,rfl,rfl,rfl,hat,hsk⟩, ?_⟩
 rintro μ σ H1 ⟨rfl,p,l,o,rfl,rfl,el,al,sk⟩
 have e1:(p:Int) + 1 = ((p + 1:Nat):Int):=by omega
 have ints1:[V.ref a,V.int ((p:Int) + 1)] = [.ref a,.int ((p + 1:Nat):Int)]:=by rw [e1]
 cases sk with
 | who n h0 h1 =>
  obtain ⟨gb,al'⟩:=al.cons
  refine ⟨_,rfl,_,rfl,a,_,_,_,rfl,rfl,hS,atI_nat (bvAt gb),aS,_,_,_,rfl,rfl,so.sq _,rfl,rfl,_,rfl,Yq (by decide +kernel) ?_⟩
  refine ⟨_,rfl,_,rfl,_,_,rfl,rfl,a,bs,p + 1,n,ints1,hS,al'.lg h0 h1, ?_⟩
  refine ⟨_,rfl,_,rfl,a,_,_,_,rfl,rfl,hS,atI_nat (bvAt gb),aS,_,_,_,rfl,rfl,so.sq _,rfl,rfl,_,rfl,Yp (by decide +kernel) ⟨_,rfl, ?_⟩⟩
  rw [List.length_cons] at el
  rw [show p + 1 + (Lg n).length = p0 + l0.length by omega]
  exact q H1 (Zb.refl _)
 | szd k h0 h1 r hr =>
  obtain ⟨gb,al'⟩:=al.cons
  obtain ⟨ag,ar⟩:=al'.app
  obtain ⟨z,hz,za,zw,_⟩:=sorts_at (k:=k) (by omega)
  have lg:=ag.lg (Int.natCast_nonneg _) (by omega)
  rw [List.length_cons,List.length_append] at el
  refine ⟨_,rfl,_,rfl,a,_,_,_,rfl,rfl,hS,atI_nat (bvAt gb),aS,_,_,_,rfl,rfl,so.sq _,so_at (H:=H1) so hz,rfl,_,rfl,Yq (by rw [za]; exact decide_eq_false (by omega)) ?_⟩
  refine ⟨_,rfl,_,rfl,_,_,rfl,rfl,a,bs,p + 1,(r.length:Int),ints1,hS,lg, ?_⟩
  refine ⟨_,rfl,_,rfl,a,_,_,_,rfl,rfl,hS,atI_nat (bvAt gb),aS,_,_,_,rfl,rfl,so.sq _,so_at (H:=H1) so hz,rfl,_,rfl,Yq (by rw [zw]; exact decide_eq_false (by omega)) ?_⟩
  refine ⟨_,rfl,_,rfl,_,rfl,_,_,rfl,rfl,a,bs,p + 1,(r.length:Int),ints1,hS,lg,fun H2 s2 => ?_⟩
  refine ⟨_,_,rfl,rfl, ?_⟩
  show Q (.int (((p + 1 + (Lg (r.length:Int)).length:Nat):Int) + (r.length:Int))) H2
  rw [show (((p + 1 + (Lg (r.length:Int)).length:Nat):Int) + (r.length:Int)) = ((p0 + l0.length:Nat):Int) by omega]
  exact q H2 s2
 | arm n h0 h1 r sr =>
  obtain ⟨gb,al'⟩:=al.cons
  obtain ⟨ag,ar⟩:=al'.app
  rw [List.length_cons,List.length_append] at el
  have l1:1 ≤ (Lg n).length:=by
   have:=Lf_ne 19 n
   unfold Lg
   cases e:Lf 19 n with
   | nil => exact absurd e this
   | cons x xs => rw [List.length_cons]; omega
  refine ⟨_,rfl,_,rfl,a,_,_,_,rfl,rfl,hS,atI_nat (bvAt gb),aS,_,_,_,rfl,rfl,so.sq _,rfl,rfl,_,rfl,Yp (by decide +kernel) ⟨fun σ' H' => ∃ m',m' < (5 :: (Lg n ++ r)).length∧_,fun σ' H' h => h, ?_⟩⟩
  refine ⟨_,rfl,_,rfl,_,_,rfl,rfl,a,bs,p + 1,n,ints1,hS,ag.lg h0 h1, ?_⟩
  exact ⟨r.length,by rw [List.length_cons,List.length_append]; omega,rfl,p + 1 + (Lg n).length,r,_,rfl,rfl,by omega,ar,sr⟩
end
abbrev s_label_at:Stmt:=top 44
abbrev N_label_at:List Str:=["file","at","sort"]
theorem sc_label_at:Zs N_label_at ["file","at","sort"] (Zk s_label_at):=by trivial
abbrev s_codes_of:Stmt:=top 40
abbrev N_codes_of:List Str:=["name"]
theorem sc_codes_of:Zs N_codes_of ["name"] (Zk s_codes_of):=by trivial
abbrev s_arm_part:Stmt:=top 41
abbrev N_arm_part:List Str:=["file","at"]
theorem sc_arm_part:Zs N_arm_part ["file","at"] (Zk s_arm_part):=by trivial
abbrev Uv:Stmt:=top 39
abbrev N_place_behind:List Str:=["file","at","step","sort","wanted","parts","label","place"]
theorem Y3:Zs N_place_behind ["file","at","step"] (Zk Uv):=by trivial
abbrev s_span_at:Stmt:=top 37
abbrev N_span_at:List Str:=["file","path","at","number","step"]
theorem sc_span_at:Zs N_span_at ["file","path"] (Zk s_span_at):=by trivial
def bD (l:List Int):D:=.tup (l.map D.int)
theorem isB {K:W.Frag} {H:Hp} {r:Addr} {l:List Int} (h:Z9 K H r (bv l)):Yv K H (bD l) (.ref r):=⟨r,_,rfl,h,areInts l⟩
theorem noLB (l:List Int):noL (bD l) = true:=by
 unfold bD
 simp only [noL]
 induction l with
 | nil => rfl
 | cons x l ih => simp only [List.map_cons,noLs,noL,Bool.true_and]; exact ih
theorem sk_whole (it:IT):∀ n,Vx it ≤ n→GdI it→(Zi it).length ≤ 1000000→Sk (Zi it):=by
 intro n
 induction n generalizing it with
 | zero => intro h; exact absurd h (by cases it <;> simp only [Vx] <;> omega)
 | succ n ih =>
  intro h gd ln
  cases it with
  | whole k => exact Sk.who _ (fold_nn k) (Int.le_trans (fold_le gd.1 gd.2) (by decide))
  | text x =>
   have e:Zi (.text x) = ((1:Nat):Int) :: (Lg ((Vo x).length:Int) ++ Vo x):=by simp only [Zi,sgB,Y0]; rfl
   rw [e]
   exact Sk.szd 1 (by decide) (by decide) _ (by rw [Y0]; have:=gd.1; omega)
  | arm k e =>
   have z:Zi (.arm k e) = 5 :: (Lg k ++ Zi e):=by simp only [Zi]
   rw [z] at ln ⊢
   rw [List.length_cons,List.length_append] at ln
   exact Sk.arm k (by have:=gd.1; omega) (by have:=gd.2.1; omega) _ (ih e (by simp only [Vx] at h; omega) gd.2.2 (by omega))
  | lst s ls es =>
   have z:Zi (.lst s ls es) = ((s + 2:Nat):Int) :: (Lg ((Zu ls es).length:Int) ++ Zu ls es):=by simp only [Zi]; rw [show ((s:Int) + 2) = ((s + 2:Nat):Int) by omega]
   rw [z] at ln ⊢
   rw [List.length_cons,List.length_append] at ln
   exact Sk.szd (s + 2) (by omega) (by have:=gd.1; omega) _ (by omega)
def LbT:Nat→Lb→Prop
 | 0,.no => True
 | 1,.key x => V6 x
 | 2,.num n => 1 ≤ n∧n ≤ 999
 | _,_ => False
def labD (k:Nat):Lb→D
 | .no => .int (k:Int)
 | .key x => bD (Vo x)
 | .num n => .int n
def V2 (k b:Nat):List Lb→List IT→List (D × Nat × IT)
 | l :: ls,e :: es => (labD k l,b + (lbB l).length,e) :: V2 (k + 1) (b + (lbB l).length + (Zi e).length) ls es
 | _,_ => []
def tpD (t:D × Nat × IT):D:=.tup [t.1,.int ((t.2.1:Nat):Int)]
theorem lab_noL (k:Nat) (l:Lb):noL (labD k l) = true:=by
 cases l with
 | no => rfl
 | key x => exact noLB _
 | num n => rfl
theorem tp_noL:∀ (k b:Nat) (ls:List Lb) (es:List IT),noLs ((V2 k b ls es).map tpD) = true
 | _,_,[],_ => by simp [V2,noLs]
 | _,_,_ :: _,[] => by simp [V2,noLs]
 | k,b,l :: ls,e :: es => by
  simp only [V2,List.map_cons,noLs,tpD,noL,Bool.and_eq_true,Bool.and_true]
  exact ⟨lab_noL k l,tp_noL _ _ ls es⟩
theorem lbT_of {s:Nat} {ls:List Lb} (hs:s ≤ 2) (h:GdL s ls):∀ l ∈ ls,LbT s l:=by
 intro l m
 match s,hs,h with
 | 0,_,h => rw [h l m]; exact True.intro
 | 1,_,⟨ks,e,g,_⟩ =>
  rw [e] at m
  obtain ⟨x,mx,rfl⟩:=List.mem_map.mp m
  exact g x mx
 | 2,_,⟨ks,e,g,_⟩ =>
  rw [e] at m
  obtain ⟨x,mx,rfl⟩:=List.mem_map.mp m
  exact g x mx
theorem cut_at {bs l:List Int} {p:Nat} (h:At bs p l) (hl:1 ≤ l.length):Yr (bv bs) (some ((p:Nat):Int)) (some ((p + l.length:Nat):Int)) = bv l:=by
 have pr:Pre bs p (p + l.length) l:=⟨h,Nat.le_refl _⟩
 exact pre_cut pr (pr.le (by intro e; rw [e] at hl; simp at hl))
theorem noLs_app:∀ {xs ys:List D},noLs (xs ++ ys) = true→noLs xs = true
 | [],_,_ => rfl
 | x :: xs,ys,h => by
  simp only [List.cons_append,noLs,Bool.and_eq_true] at h ⊢
  exact ⟨h.1,noLs_app h.2⟩
def spBLb (K:W.Frag):Sp:=fun vs H Q _ => ∃ (a:Addr) (bs:List Int) (b s:Nat) (l:Lb),vs = [.ref a,.int (b:Int),.str (srt s)]∧Z9 K H a (bv bs)∧At bs b (lbB l)∧LbT s l∧∀ H',Zb H H'→Q (.int ((b + (lbB l).length:Nat):Int)) H'
def spLbA (K:W.Frag):Sp:=fun vs H Q _ => ∃ (a:Addr) (bs:List Int) (b s:Nat) (l:Lb),vs = [.ref a,.int (b:Int),.str (srt s)]∧Z9 K H a (bv bs)∧At bs b (lbB l)∧LbT s l∧s ≠ 0∧∀ v H',Zb H H'→Yv K H' (labD 0 l) v→Q v H'
def spRP (K:W.Frag):Sp:=fun vs H Q _ => ∃ (a:Addr) (bs:List Int) (p s:Nat) (ls:List Lb) (es:List IT),vs = [.ref a,.int (p:Int)]∧Z9 K H a (bv bs)∧At bs p (Zi (.lst s ls es))∧GdI (.lst s ls es)∧(Zi (.lst s ls es)).length ≤ 1000000 ∧
 ∀ (r:Addr) (us:List V) (H':Hp),Zb H H'→H' r = some (.lst us)→Zn K H' ((V2 0 (p + 1 + (Lg ((Zu ls es).length:Int)).length) ls es).map tpD) us→Q (.ref r) H'
section
variable {P:Program} {w:World} {K:W.Frag} {mg:Str→Option Value} {base:Heap} {f:Addr} {fd:FuncData} {aS:Addr}
theorem ok_behind_label (F:Uj K "behind_label" "behind_label" s_behind_label f fd) (g_behind_long:Fn P w K mg base 1 "behind_long" ["file","at"] (spBL K)) (g_long_at:Fn P w K mg base 2 "long_at" ["file","at"] (spLA K)) :
  Yy P w K mg base Um 3 f fd ["file","at","sort"] (spBLb K):=by
 refine F.ok sc_behind_label (fun vs H Q E h => ?_) (fun cdv A outer s H vs Q E hr h => ?_)
 ·obtain ⟨a,bs,b,s,l,rfl,_⟩:=h
  rfl
 obtain ⟨a,bs,b,so,l,rfl,hS,hat,hl,q⟩:=h
 refine ⟨_,(@Zj _ _ _ _ _ (@Z8 _ _ _ _ _ _ _ _ (@Zm _ _ _ _ _ _ _ _ Yf (pv 2) Zc (Zt _)) (@Zv _ _ _ (@Zd _ _ _ _ (pv 1))) Za) (@Zj _ _ _ _ _ (@Z8 _ _ _ _ _ _ _ _ (@Zm _ _ _ _ _ _ _ _ Yf (pv 2) Zc (Zt _)) (@Zv _ _ _ (@Zd _ _ _ _ (@Zw _ _ _ _ _ _ _ _ _ _ g_behind_long hr.m rfl (Zg (pv 0) (Zg (pv 1) Zz rfl) rfl) (by decide) rfl rfl))) Za) (@Zv _ _ _ (@Zd _ _ _ _ (@Zf _ _ _ _ _ _ _ _ Z1 (@Zw _ _ _ _ _ _ _ _ _ _ g_behind_long hr.m rfl (Zg (pv 0) (Zg (pv 1) Zz rfl) rfl) (by decide) rfl rfl) (@Zw _ _ _ _ _ _ _ _ _ _ g_long_at hr.m rfl (Zg (pv 0) (Zg (pv 1) Zz rfl) rfl) (by decide) rfl rfl)))))), ?_⟩
 match so,l,hl with
 | 0,.no,_ => exact ⟨_,rfl,rfl,_,rfl,Yp (by decide +kernel) ⟨_,rfl,q H (Zb.refl _)⟩⟩
 | 2,.num n,hn =>
  have hn:1 ≤ n∧n ≤ 999:=hn
  have lg:=At.lg (n:=n) hat (by omega) (by omega)
  exact ⟨_,rfl,rfl,_,rfl,Yq (by decide +kernel) ⟨_,rfl,rfl,_,rfl,Yp (by decide +kernel) ⟨_,rfl,_,rfl,a,bs,b,n,rfl,hS,lg,q H (Zb.refl _)⟩⟩⟩
 | 1,.key x,hx =>
  have hx1:=hx.2.1
  have lg:=At.lg (n:=(x.length:Int)) (At.app hat).1 (Int.natCast_nonneg _) (by omega)
  refine ⟨_,rfl,rfl,_,rfl,Yq (by decide +kernel) ⟨_,rfl,rfl,_,rfl,Yq (by decide +kernel) ⟨_,rfl,_,rfl,a,bs,b,_,rfl,hS,lg,_,rfl,_,rfl,a,bs,b,_,rfl,hS,lg,fun H2 s2 => ⟨_,_,rfl,rfl, ?_⟩⟩⟩⟩
  have:=q H2 s2
  rw [show (((b + (lbB (.key x)).length:Nat):Int)) = ((b + (Lg (x.length:Int)).length:Nat):Int) + (x.length:Int) by simp only [lbB,sgB,List.length_append,Y0]; omega] at this
  exact this
theorem ok_label_at (F:Uj K "label_at" "label_at" s_label_at f fd) (m:Bn mg) (g_behind_long:Fn P w K mg base 1 "behind_long" ["file","at"] (spBL K)) (g_long_at:Fn P w K mg base 2 "long_at" ["file","at"] (spLA K)) (g_behind_label:Fn P w K mg base 3 "behind_label" ["file","at","sort"] (spBLb K)) :
  Yy P w K mg base Um 4 f fd ["file","at","sort"] (spLbA K):=by
 refine F.ok sc_label_at (fun vs H Q E h => ?_) (fun cdv A outer s H vs Q E hr h => ?_)
 ·obtain ⟨a,bs,b,s,l,rfl,_⟩:=h
  rfl
 obtain ⟨a,bs,b,so,l,rfl,hS,hat,hl,h0,q⟩:=h
 refine ⟨_,(@Zj _ _ _ _ _ (@Z8 _ _ _ _ _ _ _ _ (@Zm _ _ _ _ _ _ _ _ Yf (pv 2) Zc (Zt _)) (@Zv _ _ _ (@Zd _ _ _ _ (@Zw _ _ _ _ _ _ _ _ _ _ g_long_at hr.m rfl (Zg (pv 0) (Zg (pv 1) Zz rfl) rfl) (by decide) rfl rfl))) Za) (@Zv _ _ _ (@Zd _ _ _ _ (@Yt _ _ _ _ _ _ _ _ _ Yc rfl m.tuple b_tuple (Zg (@pe_slice _ _ _ _ _ _ _ _ _ _ sl_tupG (pv 0) (@po_some _ _ _ (@Zw _ _ _ _ _ _ _ _ _ _ g_behind_long hr.m rfl (Zg (pv 0) (Zg (pv 1) Zz rfl) rfl) (by decide) rfl rfl)) (@po_some _ _ _ (@Zw _ _ _ _ _ _ _ _ _ _ g_behind_label hr.m rfl (Zg (pv 0) (Zg (pv 1) (Zg (pv 2) Zz rfl) rfl) rfl) (by decide) rfl rfl))) Zz rfl) (by trivial) (by trivial) (by trivial) (by trivial))))), ?_⟩
 match so,l,hl,h0 with
 | 0,.no,_,h0 => exact absurd rfl h0
 | 2,.num n,hn,_ =>
  have hn:1 ≤ n∧n ≤ 999:=hn
  have lg:=At.lg (n:=n) hat (by omega) (by omega)
  exact ⟨_,rfl,rfl,_,rfl,Yp (by decide +kernel) ⟨_,rfl,_,rfl,a,bs,b,n,rfl,hS,lg,fun H2 s2 => q _ H2 s2 rfl⟩⟩
 | 1,.key x,hx,_ =>
  have hx1:=hx.2.1
  have hx0:=hx.1
  obtain ⟨a1,a2⟩:=At.app hat
  have lg:=At.lg (n:=(x.length:Int)) a1 (Int.natCast_nonneg _) (by omega)
  refine ⟨_,rfl,rfl,_,rfl,Yq (by decide +kernel) ⟨_,rfl,_,rfl,_,rfl,a,bs,b,_,rfl,hS,lg,_,rfl,_,rfl,_,rfl,_,rfl,a,bs,b,1,.key x,rfl,hS,hat,hx,fun H2 s2 => ⟨_,rfl,a,_,rfl,s2.up _ _ hS,fun c H4 s4 hc => ?_⟩⟩⟩
  rw [show b + (lbB (.key x)).length = b + (Lg (x.length:Int)).length + (Vo x).length by simp only [lbB,sgB,List.length_append]; omega,cut_at a2 (by rw [Y0]; exact hx0)] at hc
  exact ⟨c,_,rfl,.inr ⟨hc,q _ H4 (s2.trans s4) (isB hc)⟩⟩
theorem srt_at {s:Nat} (h:s ≤ 2):atI ((["whole","text","row","map","rec","arm"]:List Str).map V.str) ((s:Int) + 2) = some (.str (srt s)):=by
 match s,h with
 | 0,_ => rfl
 | 1,_ => rfl
 | 2,_ => rfl
theorem byI_ne (it:IT):1 ≤ (Zi it).length:=by cases it <;> (simp only [Zi,List.length_cons]; omega)
theorem lab_ok {a p:Addr} {bs:List Int} {b s:Nat} {l:Lb} {us:List V} {o1 o4 o6 o7:Option V} {H:Hp} {C:VK} (hS:Z9 K H a (bv bs)) (hat:At bs b (lbB l)) (hl:LbT s l) (hu:H p = some (.lst us)) (h:∀ v H',Zb H H'→Yv K H' (labD us.length l) v→C v H') :
  tIf (tTest (tOp rEq (tVar 2) (tC (V.str "row")))) (tCB (fun xs H Q => ∃ p ys,xs = [V.ref p]∧(Ym K H p ys ∨ Z9 K H p ys)∧Q (V.int (ys.length:Int)) H) (Vd (tVar 5) tNil)) (tCall (spLbA K) [] E0 (Vd (tVar 0) (Vd (tVar 3) (Vd (tVar 2) tNil))))
   [some (.ref a),o1,some (.str (srt s)),some (.int (b:Int)),o4,some (.ref p),o6,o7] H C:=by
 match s,l,hl with
 | 0,.no,_ => exact ⟨_,rfl,rfl,_,rfl,Yp (by decide +kernel) ⟨_,rfl,p,us,rfl,.inl (Ym.of hu),h _ H (Zb.refl _) rfl⟩⟩
 | 2,.num n,hn => exact ⟨_,rfl,rfl,_,rfl,Yq (by decide +kernel) ⟨_,rfl,_,rfl,_,rfl,a,bs,b,2,.num n,rfl,hS,hat,hn,by decide,h⟩⟩
 | 1,.key x,hx => exact ⟨_,rfl,rfl,_,rfl,Yq (by decide +kernel) ⟨_,rfl,_,rfl,_,rfl,a,bs,b,1,.key x,rfl,hS,hat,hx,by decide,h⟩⟩
theorem ok_room_parts (F:Uj K "room_parts" "room_parts" s_room_parts f fd) (m:Bn mg) (so:Ub K aS) (x_SORTS:mg "SORTS" = some (.ref aS)) (g_behind_long:Fn P w K mg base 1 "behind_long" ["file","at"] (spBL K)) (g_long_at:Fn P w K mg base 2 "long_at" ["file","at"] (spLA K))
  (g_behind_item:Fn P w K mg base 3 "behind_item" ["file","at"] (spBI K)) (g_behind_label:Fn P w K mg base 3 "behind_label" ["file","at","sort"] (spBLb K)) (g_label_at:Fn P w K mg base 4 "label_at" ["file","at","sort"] (spLbA K)) :
  Yy P w K mg base Um 5 f fd ["file","at"] (spRP K):=by
 refine F.ok Yi (fun vs H Q E h => ?_) (fun cdv A outer s H vs Q E hr h => ?_)
 ·obtain ⟨a,bs,p0,s,ls,es,rfl,_⟩:=h
  rfl
 obtain ⟨a,bs,p0,sr,ls,es,rfl,hS,hat,gd,ln,q⟩:=h
 obtain ⟨hs2,hll,gl,ge⟩:=gd
 have lt:=lbT_of hs2 gl
 have gs:=V0.mp ge
 simp only [Zi] at hat ln
 obtain ⟨gb,hat1⟩:=hat.cons
 obtain ⟨ag,ab⟩:=hat1.app
 rw [List.length_cons,List.length_append] at ln
 have lg:=ag.lg (Int.natCast_nonneg _) (by omega)
 have e1:(p0:Int) + 1 = ((p0 + 1:Nat):Int):=by omega
 have i1:[V.ref a,V.int ((p0:Int) + 1)] = [.ref a,.int ((p0 + 1:Nat):Int)]:=by rw [e1]
 generalize hb0:p0 + 1 + (Lg ((Zu ls es).length:Int)).length = b0 at ab q
 generalize hn:(Zu ls es).length = n at *
 refine ⟨_,(@Zj _ _ _ _ _ (@Zy _ 2 _ _ _ _ _ Yi.nd rfl (by trivial) (@Zr _ _ _ _ _ _ _ Zp (@Uk _ _ _ _ rfl x_SORTS (by decide)) (@Zr _ _ _ _ _ _ _ Zp (pv 0) (pv 1) (fun _ _ => rfl)) (fun _ _ => rfl)) rfl (by trivial)) (@Zj _ _ _ _ _ (@Zy _ 3 _ _ _ _ _ Yi.nd rfl (by trivial) (@Zw _ _ _ _ _ _ _ _ _ _ g_behind_long hr.m rfl (Zg (pv 0) (Zg (@Zf _ _ _ _ _ _ _ _ Z1 (pv 1) Zx) Zz rfl) rfl) (by decide) rfl rfl) rfl (by trivial)) (@Zj _ _ _ _ _ (@Zy _ 4 _ _ _ _ _ Yi.nd rfl (by trivial) (@Zf _ _ _ _ _ _ _ _ Z1 (pv 3) (@Zw _ _ _ _ _ _ _ _ _ _ g_long_at hr.m rfl (Zg (pv 0) (Zg (@Zf _ _ _ _ _ _ _ _ Z1 (pv 1) Zx) Zz rfl) rfl) (by decide) rfl rfl)) rfl (by trivial)) (@Zj _ _ _ _ _ (@Zy _ 5 _ _ _ _ _ Yi.nd rfl (by trivial) (@Y2 _ _ _ _ Zz) rfl (by trivial)) (@Zj _ _ _ _ _ (@ps_while _ _ _ _ _ _ PassesOwn.never (@Zm _ _ _ _ _ _ _ _ op_lt (pv 3) (pv 4) (Zt _)) (@Zj _ _ _ _ _ (@Zy _ 6 _ _ _ _ _ Yi.nd rfl (by trivial) (@Zw _ _ _ _ _ _ _ _ _ _ g_behind_label hr.m rfl (Zg (pv 0) (Zg (pv 3) (Zg (pv 2) Zz rfl) rfl) rfl) (by decide) rfl rfl) rfl (by trivial)) (@Zj _ _ _ _ _ (@Zy _ 7 _ _ _ _ _ Yi.nd rfl (by trivial) (@pe_ifExp _ _ _ _ _ _ _ _ (@Zm _ _ _ _ _ _ _ _ Yf (pv 2) Zc (Zt _)) (@Z5 _ _ _ _ _ _ _ _ _ Yg rfl m.len b_len (Zg (pv 5) Zz rfl) (by decide) (by decide) rfl rfl) (@Zw _ _ _ _ _ _ _ _ _ _ g_label_at hr.m rfl (Zg (pv 0) (Zg (pv 3) (Zg (pv 2) Zz rfl) rfl) rfl) (by decide) rfl rfl)) rfl (by trivial)) (@Zj _ _ _ _ _ (@Yw _ _ _ _ (@pe_bm _ _ _ _ _ _ _ _ _ _ _ _ PySem.F.plainAttrs_list PySem.F.slot_list_append PySem.F.type_list_append Uq (pv 5) (Zg (@Z3 _ _ _ _ _ (Zg (pv 7) (Zg (pv 6) Zz rfl) rfl)) Zz rfl) (by trivial) (by trivial) (by trivial) (by trivial) (by trivial)) rfl) (@Zv _ _ _ (@Zy _ 3 _ _ _ _ _ Yi.nd rfl (by trivial) (@Zw _ _ _ _ _ _ _ _ _ _ g_behind_item hr.m rfl (Zg (pv 0) (Zg (pv 6) Zz rfl) rfl) (by decide) rfl rfl) rfl (by trivial))))))) (@Zv _ _ _ (@Zd _ _ _ _ (pv 5)))))))), ?_⟩
 refine ⟨_,rfl,_,rfl,a,_,_,_,rfl,rfl,hS,L2.atI_nat (bvAt gb),aS,_,_,_,rfl,rfl,so.sq _,srt_at hs2, ?_⟩
 refine ⟨_,rfl,_,rfl,_,_,rfl,rfl,a,_,p0 + 1,_,i1,hS,lg, ?_⟩
 refine ⟨_,rfl,_,rfl,_,rfl,_,_,rfl,rfl,a,_,p0 + 1,_,i1,hS,lg,fun H2 s2 => ⟨_,_,rfl,rfl, ?_⟩⟩
 refine ⟨(sz 0),fun p hp => ?_⟩
 have hpH:H p = none:=s2.free hp
 refine ⟨fun μ σ H1 => ∃ (ls':List Lb) (es':List IT) (dn:List (D × Nat × IT)) (b:Nat) (us:List V) (o6 o7:Option V),μ = es'.length∧σ = [some (.ref a),some (.int (p0:Int)),some (.str (srt sr)),some (.int (b:Int)),some (.int ((b0:Int) + (n:Int))),some (.ref p),o6,o7] ∧
   V2 0 b0 ls es = dn ++ V2 dn.length b ls' es'∧ls'.length = es'.length∧(∀ l ∈ ls',LbT sr l)∧(∀ e ∈ es',GdI e)∧At bs b (Zu ls' es')∧b + (Zu ls' es').length = b0 + n∧dn.length + es'.length = es.length∧b0 ≤ b∧Zb H H1∧H1 p = some (.lst us)∧Zn K H1 (dn.map tpD) us,
  ⟨_,ls,es,[],b0,[],_,_,rfl,by rw [← hb0]; rfl,rfl,hll,lt,gs,ab,by omega,by simp,Nat.le_refl _,s2.put hpH,Zq,rfl⟩, ?_⟩
 rintro μ σ H1 ⟨ls',es',dn,b,us,o6,o7,rfl,rfl,tr,ll',lt',gs',ab',eb,el,bb,s1,hu,au⟩
 have ul:us.length = dn.length:=by rw [← au.length,List.length_map]
 have ml:∀ (ls:List Lb) (es:List IT),ls.length = es.length→es.length ≤ (Zu ls es).length:=by
  intro ls
  induction ls with
  | nil => intro es h; rw [← h]; exact Nat.zero_le _
  | cons l ls ih =>
   intro es h
   cases es with
   | nil => cases h
   | cons e es =>
    have h1:=ih es (Nat.succ.inj h)
    have h2:=byI_ne e
    simp only [Zu,List.length_append,List.length_cons]; omega
 match ls',es',ll' with
 | [],[],_ =>
  have b1:b = b0 + n:=by simp only [Zu,List.length_nil] at eb; omega
  refine ⟨_,rfl,_,rfl,_,_,rfl,rfl,_,rfl,Yq (decide_eq_false (by omega)) ⟨_,rfl,q p us H1 s1 hu ?_⟩⟩
  rw [tr]
  simp only [V2,List.append_nil]
  exact au
 | l :: ls',e :: es',ll' =>
  have hz:us.length < sizeLine:=by
   have z:=sizeLine_eq
   have:=ml ls es hll
   rw [List.length_cons] at el
   omega
  simp only [Zu] at ab' eb
  obtain ⟨al1,al2⟩:=ab'.app
  obtain ⟨al0,ali⟩:=al1.app
  rw [List.length_append,List.length_append] at eb
  rw [List.length_append] at al2
  have be:=byI_ne e
  have ge':=gs' e List.mem_cons_self
  refine ⟨_,rfl,_,rfl,_,_,rfl,rfl,_,rfl,Yp (decide_eq_true (by omega)) ⟨fun σ' H' => ∃ m',m' < (e :: es').length∧_,fun σ' H' h => h, ?_⟩⟩
  refine ⟨_,rfl,_,rfl,_,rfl,a,bs,b,sr,l,rfl,s1.up _ _ hS,al0,lt' l List.mem_cons_self,fun H3 s3 => ?_⟩
  refine lab_ok (s1.trans s3 |>.up _ _ hS) al0 (lt' l List.mem_cons_self) (s3 _ _ hu) fun v H4 s4 dv => ?_
  have s14:=s3.trans s4
  have hu4:=s14 _ _ hu
  refine ⟨_,rfl,.inl ⟨rfl,_,Ym.of hu4⟩,_,rfl,_,rfl,(sz 2),fun t ht => ?_⟩
  have npt:p ≠ t:=Zl hu4 ht
  have hp5:Z4 H4 t (.tup [v,.int ((b + (lbB l).length:Nat):Int)]) p = some (.lst us):=by rw [Zh npt]; exact hu4
  refine ⟨p,us,_,rfl,rfl,hp5,hz, ?_⟩
  have sH4:=s1.trans s14
  have s5:Zb H (Z4 (Z4 H4 t (.tup [v,.int ((b + (lbB l).length:Nat):Int)])) p (.lst (us ++ [.ref t]))):=(sH4.put (sH4.free ht)).put hpH
  have u5:Up K H4 (Z4 (Z4 H4 t (.tup [v,.int ((b + (lbB l).length:Nat):Int)])) p (.lst (us ++ [.ref t]))):=(Yk ht).trans (up_set hp5)
  refine ⟨_,rfl,_,rfl,a,bs,b + (lbB l).length,Zi e,rfl,s5.up _ _ hS,ali,sk_whole e _ (Nat.le_refl _) ge' (by omega),fun H6 s6 => ?_⟩
  refine ⟨es'.length,by rw [List.length_cons]; omega,ls',es',dn ++ [(labD dn.length l,b + (lbB l).length,e)],b + (lbB l).length + (Zi e).length,us ++ [.ref t],some (.int ((b + (lbB l).length:Nat):Int)),some v,rfl,rfl, ?_,Nat.succ.inj ll',fun x m => lt' x (List.mem_cons_of_mem _ m),fun x m => gs' x (List.mem_cons_of_mem _ m), ?_, ?_, ?_,by omega,s5.trans s6,s6 _ _ Zq, ?_⟩
  ·rw [tr]
   simp only [V2,List.append_assoc,List.cons_append,List.nil_append,List.length_append,List.length_cons,List.length_nil]
  ·rw [Nat.add_assoc]; exact al2
  ·omega
  ·rw [List.length_append,List.length_singleton]; rw [List.length_cons] at el; omega
  ·rw [List.map_append]
   have nl:noLs (dn.map tpD) = true:=by
    have:=tp_noL 0 b0 ls es
    rw [tr,List.map_append] at this
    exact noLs_app this
   refine Zn.append (Zn.up ((s14.up.trans u5).trans s6.up) _ _ nl au) (Zn.one ⟨t,_,rfl,s6.up _ _ (Z9.of (by rw [Zh (Ne.symm npt)]; exact Zq)),Zn.two ?_ rfl⟩)
   rw [← ul]
   exact Yv.up (u5.trans s6.up) _ _ (lab_noL _ _) dv
end
abbrev s_item_at:Stmt:=top 38
abbrev N_item_at:List Str:=["file","path","span"]
theorem sc_item_at:Zs N_item_at ["file","path"] (Zk s_item_at):=by trivial
theorem dpB (l:List Int):dpD (bD l) = 1:=by
 unfold bD
 simp only [dpD]
 rw [dpInts]
inductive Stp where
 | at (k:Int) | key (x:Str) | field (n:Int) | arm (n:Int)
def stW:Stp→Str
 | .at _ => "at" | .key _ => "key" | .field _ => "field" | .arm _ => "arm"
def stV:Stp→D
 | .at k => .int k | .key x => .str x | .field n => .int n | .arm n => .int n
def stD (s:Stp):D:=.tup [.str (stW s),stV s]
def stS:Stp→Str
 | .at _ => "row" | .key _ => "map" | .field _ => "rec" | .arm _ => "arm"
def want:Stp→D
 | .at k => .int k | .key x => bD (Vo x) | .field n => .int n | .arm n => .int n
def stOk:Stp→Prop
 | .key x => x.length ≤ 200
 | _ => True
def itS:IT→Str
 | .whole _ => "whole" | .text _ => "text" | .arm _ _ => "arm" | .lst s _ _ => srt s
def tripI (p:Nat):IT→List (D × Nat × IT)
 | .arm n e => [(.int n,p + 1 + (Lg n).length,e)]
 | .lst _ ls es => V2 0 (p + 1 + (Lg ((Zu ls es).length:Int)).length) ls es
 | _ => []
def Vk (p:Nat) (it:IT) (st:Stp):Option (Nat × IT):=if itS it = stS st then ((tripI p it).find? fun t => eqD t.1 (want st)).map (·.2) else none
def reach (p:Nat) (it:IT):List Stp→Option (Nat × IT)
 | [] => some (p,it)
 | st :: sts => (Vk p it st).bind fun r => reach r.1 r.2 sts
theorem reach_app (sts ts:List Stp):∀ (p:Nat) (it:IT),reach p it (sts ++ ts) = (reach p it sts).bind fun r => reach r.1 r.2 ts:=by
 induction sts with
 | nil => intro p it; rfl
 | cons s sts ih =>
  intro p it
  show (Vk p it s).bind (fun r => reach r.1 r.2 (sts ++ ts)) = ((Vk p it s).bind fun r => reach r.1 r.2 sts).bind fun r => reach r.1 r.2 ts
  cases Vk p it s with
  | none => rfl
  | some r => exact ih r.1 r.2
theorem trip_at {bs:List Int}:∀ (ls:List Lb) (es:List IT) (k b:Nat),At bs b (Zu ls es)→∀ t ∈ V2 k b ls es,At bs t.2.1 (Zi t.2.2)∧t.2.2 ∈ es∧(Zi t.2.2).length ≤ (Zu ls es).length
 | [],_,_,_,_,t,m => by simp [V2] at m
 | _ :: _,[],_,_,_,t,m => by simp [V2] at m
 | l :: ls,e :: es,k,b,h,t,m => by
  simp only [Zu] at h ⊢
  obtain ⟨h1,h2⟩:=h.app
  obtain ⟨_,h4⟩:=h1.app
  rw [List.length_append] at h2
  simp only [V2] at m
  rw [List.length_append,List.length_append]
  rcases List.mem_cons.mp m with rfl | m
  ·exact ⟨h4,List.mem_cons_self,by show (Zi e).length ≤ _; omega⟩
  ·obtain ⟨a1,a2,a3⟩:=trip_at ls es (k + 1) (b + (lbB l).length + (Zi e).length) (by rw [Nat.add_assoc]; exact h2) t m
   exact ⟨a1,List.mem_cons_of_mem _ a2,by omega⟩
structure InF (bs:List Int) (p:Nat) (it:IT):Prop where
 at':At bs p (Zi it)
 gd:GdI it
 ln:(Zi it).length ≤ 1000000
theorem trips_in {bs:List Int} {p:Nat} {it:IT} (h:InF bs p it):∀ t ∈ tripI p it,InF bs t.2.1 t.2.2:=by
 intro t m
 obtain ⟨ha,gd,ln⟩:=h
 cases it with
 | whole n => cases m
 | text x => cases m
 | arm n e =>
  simp only [tripI,List.mem_singleton] at m
  subst m
  simp only [Zi] at ha ln
  obtain ⟨_,h2⟩:=ha.cons
  rw [List.length_cons,List.length_append] at ln
  exact ⟨h2.app.2,gd.2.2,by show (Zi e).length ≤ _; omega⟩
 | lst s ls es =>
  simp only [Zi] at ha ln
  obtain ⟨_,h2⟩:=ha.cons
  rw [List.length_cons,List.length_append] at ln
  obtain ⟨a1,a2,a3⟩:=trip_at ls es 0 _ h2.app.2 t m
  exact ⟨a1,V0.mp gd.2.2.2 _ a2,by omega⟩
theorem toStep_in {bs:List Int} {p q:Nat} {it e:IT} {st:Stp} (h:InF bs p it) (t:Vk p it st = some (q,e)):InF bs q e:=by
 unfold Vk at t
 split at t
 ·obtain ⟨x,hx,ex⟩:=Option.map_eq_some_iff.mp t
  have:=trips_in h x (List.mem_of_find?_eq_some hx)
  rw [ex] at this
  exact this
 ·cases t
structure StepsOk (K:W.Frag) (w:World) (a:Addr):Prop where
 top:TopD K w a
 get:∀ st:Stp,∃ u,W.nsIn K a (stW st) = some (some u)∧Z6 (.str (stS st)) u
def spCo (K:W.Frag):Sp:=fun vs H Q _ => ∃ x:Str,vs = [.str x]∧x.length ≤ 200∧∀ (r:Addr) (H':Hp),Zb H H'→Z9 K H' r (bv (Vo x))→Q (.ref r) H'
def spAP (K:W.Frag):Sp:=fun vs H Q _ => ∃ (a:Addr) (bs:List Int) (p:Nat) (n:Int) (e:IT),vs = [.ref a,.int (p:Int)]∧Z9 K H a (bv bs)∧At bs p (Zi (.arm n e))∧1 ≤ n∧n ≤ 999 ∧
 ∀ (r:Addr) (H':Hp),Zb H H'→Z9 K H' r [.int n,.int ((p + 1 + (Lg n).length:Nat):Int)]→Q (.ref r) H'
def stepV:Option (Nat × IT)→V
 | some (q,_) => .int (q:Int)
 | none => .non
def spPB (K:W.Frag):Sp:=fun vs H Q _ => ∃ (a:Addr) (v:V) (bs:List Int) (p:Nat) (it:IT) (st:Stp),vs = [.ref a,.int (p:Int),v]∧Z9 K H a (bv bs)∧InF bs p it∧Yv K H (stD st) v∧stOk st∧∀ H',Zb H H'→Q (stepV (Vk p it st)) H'
def spSA (K:W.Frag):Sp:=fun vs H Q _ => ∃ (a pa:Addr) (xs:List V) (it:IT) (sts:List Stp) (q:Nat) (e:IT),vs = [.ref a,.ref pa]∧Z9 K H a (bv (Zi it))∧GdI it∧(Zi it).length ≤ 1000000∧Z9 K H pa xs∧Zn K H (sts.map stD) xs∧(∀ s ∈ sts,stOk s)∧reach 0 it sts = some (q,e) ∧
 ∀ r H',Zb H H'→Z9 K H' r [.int (q:Int),.int ((q + (Zi e).length:Nat):Int)]→Q (.ref r) H'
section
variable {P:Program} {w:World} {K:W.Frag} {mg:Str→Option Value} {base:Heap} {f:Addr} {fd:FuncData} {aS aT:Addr}
theorem ok_codes_of (F:Uj K "codes_of" "codes_of" s_codes_of f fd) (m:Bn mg):Yy P w K mg base Um 1 f fd ["name"] (spCo K):=by
 refine F.ok sc_codes_of (fun vs H Q E h => ?_) (fun cdv A outer s H vs Q E hr h => ?_)
 ·obtain ⟨x,rfl,_⟩:=h
  rfl
 obtain ⟨x,rfl,hx,q⟩:=h
 refine ⟨_,(@Zv _ _ _ (@Zd _ _ _ _ (@Yt _ _ _ _ _ _ _ _ _ Yc rfl m.tuple b_tuple (Zg (@Vw _ N_codes_of (Zk s_codes_of) ["sign"] [none] _ _ _ _ _ _ _ _ _ _ rfl (@pi_str _ _ _ _ (pv 0)) ⟨rfl,rfl,by decide +kernel,by decide +kernel⟩ (fun _ _ _ => (@Z0 _ 0 _ _ (show List.Nodup (["sign"]:List Str) from by decide +kernel) rfl (Or.inl rfl) (by trivial))) (fun _ _ _ => Vf) (fun _ _ _ => (@Z5 _ _ _ _ _ _ _ _ _ call_ord rfl m.ord b_ord (Zg (pv 0) Zz rfl) (by decide) (by decide) rfl rfl)) (by trivial)) Zz rfl) (by trivial) (by trivial) (by trivial) (by trivial)))), ?_⟩
 refine ⟨_,rfl,x,rfl,fun D fp sx hD => ord_comp (Nat.le_trans hx (by decide)) hD fun H2 s2 h2 => ⟨D,_,rfl,.inl ⟨Ym.of h2,fun l hl => q l _ (s2.trans (Zb.lay hl)) (Z9.of Zq)⟩⟩⟩
theorem ok_arm_part (F:Uj K "arm_part" "arm_part" s_arm_part f fd) (g_behind_long:Fn P w K mg base 1 "behind_long" ["file","at"] (spBL K)) (g_long_at:Fn P w K mg base 2 "long_at" ["file","at"] (spLA K)):Yy P w K mg base Um 3 f fd ["file","at"] (spAP K):=by
 refine F.ok sc_arm_part (fun vs H Q E h => ?_) (fun cdv A outer s H vs Q E hr h => ?_)
 ·obtain ⟨a,bs,p,n,e,rfl,_⟩:=h
  rfl
 obtain ⟨a,bs,p,n,e,rfl,hS,hat,n1,n2,q⟩:=h
 simp only [Zi] at hat
 have lg:=(hat.cons.2.app.1).lg (n:=n) (by omega) (by omega)
 have i1:[V.ref a,V.int ((p:Int) + 1)] = [.ref a,.int ((p + 1:Nat):Int)]:=by rw [show (p:Int) + 1 = ((p + 1:Nat):Int) by omega]
 refine ⟨_,(@Zv _ _ _ (@Zd _ _ _ _ (@Z3 _ _ _ _ _ (Zg (@Zw _ _ _ _ _ _ _ _ _ _ g_long_at hr.m rfl (Zg (pv 0) (Zg (@Zf _ _ _ _ _ _ _ _ Z1 (pv 1) Zx) Zz rfl) rfl) (by decide) rfl rfl) (Zg (@Zw _ _ _ _ _ _ _ _ _ _ g_behind_long hr.m rfl (Zg (pv 0) (Zg (@Zf _ _ _ _ _ _ _ _ Z1 (pv 1) Zx) Zz rfl) rfl) (by decide) rfl rfl) Zz rfl) rfl)))), ?_⟩
 refine ⟨_,rfl,_,rfl,_,_,rfl,rfl,a,bs,p + 1,n,i1,hS,lg,fun H2 s2 => ?_⟩
 refine ⟨_,rfl,_,rfl,_,_,rfl,rfl,a,bs,p + 1,n,i1,s2.up _ _ hS,lg,(sz 2),fun r hr2 => ?_⟩
 exact q r _ (s2.trans (Zb.lay hr2)) (Z9.of Zq)
theorem want_ok {v:V} {st:Stp} {o0 o1 o4 o5 o6 o7:Option V} {H:Hp} {C:VK} (hv:Yv K H (stD st) v) (ok:stOk st) (h:∀ v H',Zb H H'→Yv K H' (want st) v→C v H') :
  tIf (tTest (tOp rEq (tVar 3) (tC (V.str "map")))) (tCall (spCo K) [] E0 (Vd (tOp (rIxT K) (tVar 2) (tC (.int 1))) tNil)) (tOp (rIxT K) (tVar 2) (tC (.int 1))) [o0,o1,some v,some (.str (stS st)),o4,o5,o6,o7] H C:=by
 obtain ⟨r,x,y,rfl,hq,_,hy⟩:=isD2 hv
 cases st with
 | key z =>
  obtain rfl:y = .str z:=hy
  exact ⟨_,rfl,rfl,_,rfl,Yp (by simp only [stS]; decide +kernel) ⟨_,rfl,r,_,_,_,rfl,rfl,hq,rfl,z,rfl,ok,fun t H' s' ht => h _ H' s' (isB ht)⟩⟩
 | «at» k => exact ⟨_,rfl,rfl,_,rfl,Yq (show decide (V.str "row" = V.str "map") = false from by decide +kernel) ⟨_,rfl,r,_,_,_,rfl,rfl,hq,rfl,h _ H (Zb.refl _) hy⟩⟩
 | field k => exact ⟨_,rfl,rfl,_,rfl,Yq (show decide (V.str "rec" = V.str "map") = false from by decide +kernel) ⟨_,rfl,r,_,_,_,rfl,rfl,hq,rfl,h _ H (Zb.refl _) hy⟩⟩
 | arm k => exact ⟨_,rfl,rfl,_,rfl,Yq (show decide (V.str "arm" = V.str "map") = false from by decide +kernel) ⟨_,rfl,r,_,_,_,rfl,rfl,hq,rfl,h _ H (Zb.refl _) hy⟩⟩
theorem parts_ok {a:Addr} {bs:List Int} {p:Nat} {it:IT} {st:Stp} {o2 o4 o5 o6 o7:Option V} {H:Hp} {C:VK} (hS:Z9 K H a (bv bs)) (hi:InF bs p it) (e:itS it = stS st)
  (h:∀ r us H',Zb H H'→H' r = some (.lst us)→Zn K H' ((tripI p it).map tpD) us→C (.ref r) H') :
  tIf (tTest (tOp rEq (tVar 3) (tC (V.str "arm")))) (tLst (Vd (tCall (spAP K) [] E0 (Vd (tVar 0) (Vd (tVar 1) tNil))) tNil)) (tCall (spRP K) [] E0 (Vd (tVar 0) (Vd (tVar 1) tNil)))
   [some (.ref a),some (.int (p:Int)),o2,some (.str (stS st)),o4,o5,o6,o7] H C:=by
 cases it with
 | whole n => exact absurd e (by cases st <;> (simp only [itS,stS]; decide +kernel))
 | text n => exact absurd e (by cases st <;> (simp only [itS,stS]; decide +kernel))
 | arm n e' =>
  have es:stS st = "arm" := e.symm
  refine ⟨_,rfl,rfl,_,rfl,Yp (decide_eq_true (by rw [es])) ⟨_,rfl,_,rfl,a,bs,p,n,e',rfl,hS,hi.at',hi.gd.1,hi.gd.2.1,fun r H2 s2 hr => ⟨(sz 1),fun l hl => ?_⟩⟩⟩
  refine h l _ _ (s2.trans (Zb.lay hl)) Zq (Zn.one ⟨r,_,rfl,Yk hl _ _ hr,Zn.two rfl rfl⟩)
 | lst s ls es =>
  have h2:=hi.gd.1
  have ne:¬ (stS st = "arm"):=fun z => by
   have e:srt s = stS st:=e
   rw [z] at e
   revert e
   match s,h2 with
   | 0,_ => decide +kernel
   | 1,_ => decide +kernel
   | 2,_ => decide +kernel
  exact ⟨_,rfl,rfl,_,rfl,Yq (decide_eq_false (by intro z; injection z with z; exact ne z)) ⟨_,rfl,_,rfl,a,bs,p,s,ls,es,rfl,hS,hi.at',hi.gd,hi.ln,h⟩⟩
theorem trip_noL1:∀ (k b:Nat) (ls:List Lb) (es:List IT),∀ t ∈ V2 k b ls es,noL t.1 = true
 | _,_,[],_,t,m => by simp [V2] at m
 | _,_,_ :: _,[],t,m => by simp [V2] at m
 | k,b,l :: ls,e :: es,t,m => by
  simp only [V2] at m
  rcases List.mem_cons.mp m with rfl | m
  ·exact lab_noL k l
  ·exact trip_noL1 _ _ ls es t m
theorem trip_noL {p:Nat} {it:IT}:∀ t ∈ tripI p it,noL t.1 = true:=by
 intro t m
 cases it with
 | whole n => cases m
 | text x => cases m
 | arm n e =>
  simp only [tripI,List.mem_singleton] at m
  subst m
  rfl
 | lst s ls es => exact trip_noL1 _ _ ls es t m
theorem itS_at {bs:List Int} {p:Nat} {it:IT} (hi:InF bs p it):∃ n:Int,bs[p]? = some n∧atI ((["whole","text","row","map","rec","arm"]:List Str).map V.str) n = some (.str (itS it)):=by
 have hat:=hi.at'
 cases it with
 | whole n => exact ⟨0,(At.cons (by simpa only [Zi] using hat)).1,rfl⟩
 | text n => exact ⟨1,(At.cons (by simpa only [Zi] using hat)).1,rfl⟩
 | arm n e => exact ⟨5,(At.cons (by simpa only [Zi] using hat)).1,rfl⟩
 | lst s ls es => exact ⟨_,(At.cons (by simpa only [Zi] using hat)).1,srt_at hi.gd.1⟩
theorem find_drop {α:Type _} {P:α→Bool} {l:List α} {i:Nat} {x:α} (h:l[i]? = some x) (e:l.find? P = (l.drop i).find? P):(P x = true→l.find? P = some x)∧(P x = false→l.find? P = (l.drop (i + 1)).find? P):=by
 have hi:i < l.length:=(List.getElem?_eq_some_iff.mp h).1
 have ed:l.drop i = x :: l.drop (i + 1):=by
  rw [show x = l[i] from ((List.getElem?_eq_some_iff.mp h).2).symm,List.getElem_cons_drop]
 rw [ed] at e
 exact ⟨fun t => by rw [e,List.find?_cons,t],fun t => by rw [e,List.find?_cons,t]⟩
theorem dp_lab (k:Nat) (l:Lb):dpD (labD k l) ≤ 1:=by
 cases l with
 | no => exact Nat.zero_le _
 | key x => exact Nat.le_of_eq (dpB _)
 | num n => exact Nat.zero_le _
theorem dp_trip:∀ (k b:Nat) (ls:List Lb) (es:List IT),∀ t ∈ V2 k b ls es,dpD t.1 ≤ 1
 | _,_,[],_,t,m => by simp [V2] at m
 | _,_,_ :: _,[],t,m => by simp [V2] at m
 | k,b,l :: ls,e :: es,t,m => by
  simp only [V2] at m
  rcases List.mem_cons.mp m with rfl | m
  ·exact dp_lab k l
  ·exact dp_trip _ _ ls es t m
theorem dp_tripI {p:Nat} {it:IT}:∀ t ∈ tripI p it,dpD t.1 ≤ 1:=by
 intro t m
 cases it with
 | whole n => cases m
 | text x => cases m
 | arm n e =>
  simp only [tripI,List.mem_singleton] at m
  subst m
  exact Nat.zero_le _
 | lst s ls es => exact dp_trip _ _ ls es t m
theorem ok_place_behind (F:Uj K "place_behind" "place_behind" Uv f fd) (so:Ub K aS) (x_SORTS:mg "SORTS" = some (.ref aS)) (st':StepsOk K w aT) (x_SORTS_OF_STEPS:mg "SORTS_OF_STEPS" = some (.ref aT))
  (g_room_parts:Fn P w K mg base 5 "room_parts" ["file","at"] (spRP K)) (g_codes_of:Fn P w K mg base 1 "codes_of" ["name"] (spCo K)) (g_arm_part:Fn P w K mg base 3 "arm_part" ["file","at"] (spAP K)) :
  Yy P w K mg base Um 6 f fd ["file","at","step"] (spPB K):=by
 refine F.ok Y3 (fun vs H Q E h => ?_) (fun cdv A outer s H vs Q E hr h => ?_)
 ·obtain ⟨a,v,bs,p,it,st,rfl,_⟩:=h
  rfl
 obtain ⟨a,v,bs,p,it,st,rfl,hS,hi,hv,ok,q⟩:=h
 have un:∀ n,n ≤ 200→(A.deeper (envOfC "place_behind" (Zk Uv) s.heap.objs.size f cdv)).units + n < cLine:=fun n h => by
  have:=hr.un
  omega
 obtain ⟨u,hu,ru⟩:=st'.get st
 obtain ⟨n,hn,hs⟩:=itS_at hi
 obtain ⟨r,x,y,rfl,hq,hx,hy⟩:=isD2 hv
 obtain rfl:x = .str (stW st):=hx
 refine ⟨_,(@Zj _ _ _ _ _ (@Zy _ 3 _ _ _ _ _ Y3.nd rfl (by trivial) (@Zr _ _ _ _ _ _ _ Zp (@Uk _ _ _ _ rfl x_SORTS (by decide)) (@Zr _ _ _ _ _ _ _ Zp (pv 0) (pv 1) (fun _ _ => rfl)) (fun _ _ => rfl)) rfl (by trivial)) (@Zj _ _ _ _ _ (@Z8 _ _ _ _ _ _ _ _ (@Zm _ _ _ _ _ _ _ _ op_ne (pv 3) (@Zr _ _ _ _ _ _ _ ix_topD (@Uk _ _ _ _ rfl x_SORTS_OF_STEPS (by decide)) (@Zr _ _ _ _ _ _ _ Zp (pv 2) Zx (fun _ _ => rfl)) (fun _ _ => rfl)) (Zt _)) (@Zv _ _ _ (@Zd _ _ _ _ pe_non)) Za) (@Zj _ _ _ _ _ (@Zy _ 4 _ _ _ _ _ Y3.nd rfl (by trivial) (@pe_ifExp _ _ _ _ _ _ _ _ (@Zm _ _ _ _ _ _ _ _ Yf (pv 3) Zc (Zt _)) (@Zw _ _ _ _ _ _ _ _ _ _ g_codes_of hr.m rfl (Zg (@Zr _ _ _ _ _ _ _ Zp (pv 2) Zx (fun _ _ => rfl)) Zz rfl) (by decide) rfl rfl) (@Zr _ _ _ _ _ _ _ Zp (pv 2) Zx (fun _ _ => rfl))) rfl (by trivial)) (@Zj _ _ _ _ _ (@Zy _ 5 _ _ _ _ _ Y3.nd rfl (by trivial) (@pe_ifExp _ _ _ _ _ _ _ _ (@Zm _ _ _ _ _ _ _ _ Yf (pv 3) Zc (Zt _)) (@Y2 _ _ _ _ (Zg (@Zw _ _ _ _ _ _ _ _ _ _ g_arm_part hr.m rfl (Zg (pv 0) (Zg (pv 1) Zz rfl) rfl) (by decide) rfl rfl) Zz rfl)) (@Zw _ _ _ _ _ _ _ _ _ _ g_room_parts hr.m rfl (Zg (pv 0) (Zg (pv 1) Zz rfl) rfl) (by decide) rfl rfl)) rfl (by trivial)) (@Zj _ _ _ _ _ (@ps_for _ _ _ _ _ _ _ _ PassesOwn.never rfl (@pi_list _ _ _ _ (pv 5)) (@pg_tup _ _ _ _ _ _ rfl (@Vj _ _ _ _ _ (@Z0 _ 6 _ _ Y3.nd rfl (Or.inl rfl) (by trivial)) (@Vj _ _ _ _ _ (@Z0 _ 7 _ _ Y3.nd rfl (Or.inl rfl) (by trivial)) pgs_nil (by trivial)) (by trivial)) (by trivial) (by trivial)) (@Zv _ _ _ (@Z8 _ _ _ _ _ _ _ _ (@Zm _ _ _ _ _ _ _ _ op_eqD (pv 6) (pv 4) (Zt _)) (@Zv _ _ _ (@Zd _ _ _ _ (pv 7))) Za)) (by trivial)) (@Zv _ _ _ (@Zd _ _ _ _ pe_non))))))), ?_⟩
 refine ⟨_,rfl,_,rfl,a,_,_,_,rfl,rfl,hS,L2.atI_nat (bvAt hn),aS,_,_,_,rfl,rfl,so.sq _,hs, ?_⟩
 refine ⟨_,rfl,_,rfl,r,_,_,_,rfl,rfl,hq,rfl,aT,_,.str (stS st),u,rfl,rfl,st'.top,hu,ru,rfl,_,rfl, ?_⟩
 by_cases c:itS it = stS st
 ·refine Yq (by rw [c]; simp) ?_
  rw [c]
  refine want_ok hv ok fun y' H2 s2 hy' => ?_
  refine parts_ok (st:=st) (s2.up _ _ hS) hi c fun l us H3 s3 hl au => ?_
  have hy3:Yv K H3 (want st) y':=Yv.up s3.up _ _ (by cases st <;> first | rfl | exact noLB _) hy'
  have ul:us.length = (tripI p it).length:=by rw [← au.length,List.length_map]
  refine ⟨_,rfl,l,rfl,⟨_,Ym.of hl⟩,for_list (xs:=us) (fun i σ H4 => (tripI p it).find? (fun t => eqD t.1 (want st)) = ((tripI p it).drop i).find? (fun t => eqD t.1 (want st))∧Zb H3 H4∧∃ o6 o7,σ = [some (.ref a),some (.int (p:Int)),some (.ref r),some (.str (stS st)),some y',some (.ref l),o6,o7]) ⟨rfl,Zb.refl _,_,_,rfl⟩ ?_ ?_ ?_⟩
  ·rintro i σ H4 hi' ⟨_,s4,_⟩
   exact Ym.of (s4 _ _ hl)
  ·rintro i x σ H4 hx ⟨hf,s4,o6,o7,rfl⟩
   have il:i < (tripI p it).length:=by have:=(List.getElem?_eq_some_iff.mp hx).1; omega
   have ht:(tripI p it)[i]? = some (tripI p it)[i]:=List.getElem?_eq_getElem il
   generalize (tripI p it)[i] = t at ht
   obtain ⟨x',hx',dx⟩:=au.get (by rw [List.getElem?_map,ht]; rfl:((tripI p it).map tpD)[i]? = some (tpD t))
   rw [hx] at hx'
   cases hx'
   obtain ⟨tt,x1,x2,rfl,htt,h1,h2⟩:=isD2 (show Yv K H3 (.tup [t.1,.int ((t.2.1:Nat):Int)]) x from dx)
   obtain rfl:x2 = .int ((t.2.1:Nat):Int):=h2
   obtain ⟨ft,ff⟩:=find_drop ht hf
   have dt:=dp_tripI t (List.mem_of_getElem? ht)
   refine ⟨tt,_,rfl,s4.up _ _ htt,rfl,_,_,rfl,_,_,rfl,rfl, ?_⟩
   refine ⟨_,rfl,_,rfl,t.1,want st,Yv.up s4.up _ _ (trip_noL t (List.mem_of_getElem? ht)) h1,Yv.up s4.up _ _ (by cases st <;> first | rfl | exact noLB _) hy3,un (dpD t.1) (by omega),_,rfl, ?_⟩
   cases ce:eqD t.1 (want st) with
   | true =>
    refine iteT ⟨_,rfl, ?_⟩
    have:=q H4 ((s2.trans s3).trans s4)
    unfold Vk at this
    rw [if_pos c,ft ce] at this
    exact this
   | false => exact iteF ⟨ff ce,s4,_,_,rfl⟩
  ·rintro σ H4 ⟨hf,s4,_⟩
   have:=q H4 ((s2.trans s3).trans s4)
   unfold Vk at this
   rw [if_pos c,hf,ul,List.drop_length] at this
   exact this
 ·refine Yp (by simp [c]) ?_
  have:=q H (Zb.refl _)
  unfold Vk at this
  rw [if_neg c] at this
  exact this
end
theorem reach_in {bs:List Int}:∀ (sts:List Stp) {p q:Nat} {it e:IT},InF bs p it→reach p it sts = some (q,e)→InF bs q e
 | [],p,q,it,e,h,r => by cases r; exact h
 | s :: sts,p,q,it,e,h,r => by
  obtain ⟨x,hx,r'⟩:=Option.bind_eq_some_iff.mp r
  exact reach_in sts (toStep_in h hx) r'
theorem reach_snoc {sts:List Stp} {st:Stp} {p q:Nat} {it e:IT} (h:reach p it sts = some (q,e)):reach p it (sts ++ [st]) = Vk q e st:=by
 rw [reach_app,h]
 show (Vk q e st).bind (fun r => some (r.1,r.2)) = _
 cases Vk q e st <;> rfl
theorem reach_pre {it e:IT} {q i:Nat} {sts:List Stp} (h:reach 0 it sts = some (q,e)):∃ r,reach 0 it (sts.take i) = some r:=by
 have:=h
 rw [← List.take_append_drop i sts,reach_app] at this
 obtain ⟨r,hr,_⟩:=Option.bind_eq_some_iff.mp this
 exact ⟨r,hr⟩
theorem reach_dp:∀ (sts:List Stp) {p q:Nat} {it e:IT},reach p it sts = some (q,e)→Vx e ≤ Vx it
 | [],p,q,it,e,r => by cases r; exact Nat.le_refl _
 | s :: sts,p,q,it,e,r => by
  obtain ⟨x,hx,r'⟩:=Option.bind_eq_some_iff.mp r
  have h1:=reach_dp sts r'
  have h2:Vx x.2 ≤ Vx it:=by
   unfold Vk at hx
   split at hx
   ·obtain ⟨t,ht,ex⟩:=Option.map_eq_some_iff.mp hx
    have mt:=List.mem_of_find?_eq_some ht
    rw [← ex]
    cases it with
    | whole n => cases mt
    | text n => cases mt
    | arm n e' =>
     simp only [tripI,List.mem_singleton] at mt
     subst mt
     simp only [Vx]; omega
    | lst st ls es =>
     have z:∀ (ls:List Lb) (es:List IT) (k b:Nat),∀ t ∈ V2 k b ls es,t.2.2 ∈ es:=by
      intro ls
      induction ls with
      | nil => intro es k b t m; simp [V2] at m
      | cons l ls ih =>
       intro es k b t m
       cases es with
       | nil => simp [V2] at m
       | cons e es =>
        simp only [V2] at m
        rcases List.mem_cons.mp m with rfl | m
        ·exact List.mem_cons_self
        ·exact List.mem_cons_of_mem _ (ih es _ _ t m)
     have:=dpI_mem (z ls es _ _ t mt)
     simp only [Vx]; omega
   ·cases hx
  omega
def spIA (K:W.Frag) (N:Nat):Sp:=fun vs H Q _ => ∃ (a pa:Addr) (xs:List V) (it:IT) (sts:List Stp) (q:Nat) (e:IT),vs = [.ref a,.ref pa]∧Z9 K H a (bv (Zi it))∧GdI it∧(Zi it).length ≤ 1000000∧Vx it ≤ N + 1∧Vx it ≤ 100∧Z9 K H pa xs∧Zn K H (sts.map stD) xs∧(∀ s ∈ sts,stOk s)∧reach 0 it sts = some (q,e) ∧
 ∀ v H',Zb H H'→Yv K H' (toD e) v→Q v H'
section
variable {P:Program} {w:World} {K:W.Frag} {mg:Str→Option Value} {base:Heap} {f:Addr} {fd:FuncData} {aS aT:Addr}
theorem ok_span_at (F:Uj K "span_at" "span_at" s_span_at f fd) (m:Bn mg) (g_place_behind:Fn P w K mg base 6 "place_behind" ["file","at","step"] (spPB K)) (g_behind_item:Fn P w K mg base 3 "behind_item" ["file","at"] (spBI K)) :
  Yy P w K mg base Um 7 f fd ["file","path"] (spSA K):=by
 refine F.ok sc_span_at (fun vs H Q E h => ?_) (fun cdv A outer s H vs Q E hr h => ?_)
 ·obtain ⟨a,pa,xs,it,sts,q,e,rfl,_⟩:=h
  rfl
 obtain ⟨a,pa,xs,it,sts,q0,e0,rfl,hS,gd,ln,hpa,ax,sk,rc0,q1⟩:=h
 have xl:xs.length = sts.length:=by rw [← ax.length,List.length_map]
 have i0:InF (Zi it) 0 it:=⟨⟨[],by simp⟩,gd,ln⟩
 refine ⟨_,(@Zj _ _ _ _ _ (@Zy _ 2 _ _ _ _ _ sc_span_at.nd rfl (by trivial) Zx rfl (by trivial)) (@Zj _ _ _ _ _ (@ps_for _ _ _ _ _ _ _ _ PassesOwn.never rfl (pi_enum rfl m.enumerate (Zg (pv 1) Zz rfl)) (@pg_tup _ _ _ _ _ _ rfl (@Vj _ _ _ _ _ (@Z0 _ 3 _ _ sc_span_at.nd rfl (Or.inl rfl) (by trivial)) (@Vj _ _ _ _ _ (@Z0 _ 4 _ _ sc_span_at.nd rfl (Or.inl rfl) (by trivial)) pgs_nil (by trivial)) (by trivial)) (by trivial) (by trivial)) (@Zj _ _ _ _ _ (@Zy _ 2 _ _ _ _ _ sc_span_at.nd rfl (by trivial) (@Zw _ _ _ _ _ _ _ _ _ _ g_place_behind hr.m rfl (Zg (pv 0) (Zg (pv 2) (Zg (pv 4) Zz rfl) rfl) rfl) (by decide) rfl rfl) rfl (by trivial)) (@Zv _ _ _ (@Z8 _ _ _ _ _ _ _ _ (@Zm _ _ _ _ _ _ _ _ op_isN (pv 2) pe_non (Zt _)) (@pss_never _ _) Za))) (by trivial)) (@Zv _ _ _ (@Zd _ _ _ _ (@Z3 _ _ _ _ _ (Zg (pv 2) (Zg (@Zw _ _ _ _ _ _ _ _ _ _ g_behind_item hr.m rfl (Zg (pv 0) (Zg (pv 2) Zz rfl) rfl) (by decide) rfl rfl) Zz rfl) rfl)))))), ?_⟩
 refine ⟨_,rfl,pa,_,rfl,hpa,for_enum (xs:=xs) (fun i σ H3 => Zb H H3∧∃ (n:Nat) (e:IT) (o3 o4:Option V),σ = [some (.ref a),some (.ref pa),some (.int (n:Int)),o3,o4]∧reach 0 it (sts.take i) = some (n,e)) ⟨Zb.refl _,0,it,_,_,rfl,rfl⟩ ?_ ?_ ?_⟩
 ·rintro i σ H3 hi ⟨s3,_⟩
  exact s3.up _ _ hpa
 ·rintro i x p σ H3 hx ⟨s3,n,e,o3,o4,rfl,rc⟩ hp
  have il:i < sts.length:=by have:=(List.getElem?_eq_some_iff.mp hx).1; omega
  have hst:sts[i]? = some sts[i]:=List.getElem?_eq_getElem il
  have tk:sts.take (i + 1) = sts.take i ++ [sts[i]]:=by rw [List.take_succ,hst]; rfl
  generalize sts[i] = st at hst tk
  obtain ⟨x',hx',dx⟩:=ax.get (by rw [List.getElem?_map,hst]; rfl:(sts.map stD)[i]? = some (stD st))
  rw [hx] at hx'
  cases hx'
  have s4:=s3.trans (Zb.lay (o:=.tup [.int ((i:Nat):Int),x]) hp)
  refine ⟨p,_,rfl,Z9.of Zq,rfl,_,_,rfl,_,_,rfl,rfl, ?_⟩
  have inn:=reach_in _ i0 rc
  refine ⟨_,rfl,_,rfl,_,rfl,a,x,Zi it,n,e,st,rfl,s4.up _ _ hS,inn,Yv.up s4.up _ _ (by cases st <;> rfl) dx,sk st (List.mem_of_getElem? hst),fun H5 s5 => ?_⟩
  have rs:=reach_snoc (st:=st) rc
  rw [← tk] at rs
  obtain ⟨r,hr'⟩:=reach_pre (i:=i + 1) rc0
  rw [hr'] at rs
  rw [← rs]
  refine ⟨_,rfl,rfl,_,rfl,Yq (decide_eq_false (by intro z; cases z)) ?_⟩
  exact ⟨s4.trans s5,r.1,r.2,_,_,rfl,hr'⟩
 ·rintro σ H3 ⟨s3,n,e,o3,o4,rfl,rc⟩
  rw [xl,List.take_length,rc0] at rc
  cases rc
  have inn:=reach_in _ i0 rc0
  refine ⟨_,rfl,_,rfl,_,rfl,a,_,q0,Zi e0,rfl,s3.up _ _ hS,inn.at',sk_whole e0 _ (Nat.le_refl _) inn.gd inn.ln,fun H5 s5 => ⟨(sz 2),fun r hr5 => ?_⟩⟩
  exact q1 r _ ((s3.trans s5).trans (Zb.lay hr5)) (Z9.of Zq)
theorem ok_item_at {N:Nat} (F:Uj K "item_at" "item_at" s_item_at f fd) (g_span_at:Fn P w K mg base 7 "span_at" ["file","path"] (spSA K)) (g_unpacked_between:Fn P w K mg base (N + 7) "unpacked_between" ["file","begin","end"] (spBetween K N)):Yy P w K mg base Um (N + 8) f fd ["file","path"] (spIA K N):=by
 refine F.ok sc_item_at (fun vs H Q E h => ?_) (fun cdv A outer s H vs Q E hr h => ?_)
 ·obtain ⟨a,pa,xs,it,sts,q,e,rfl,_⟩:=h
  rfl
 obtain ⟨a,pa,xs,it,sts,q,e,rfl,hS,gd,ln,dN,d1,hpa,ax,sk,rc,qq⟩:=h
 have i0:InF (Zi it) 0 it:=⟨⟨[],by simp⟩,gd,ln⟩
 have inn:=reach_in _ i0 rc
 have de:=reach_dp _ rc
 refine ⟨_,(@Zj _ _ _ _ _ (@Zy _ 2 _ _ _ _ _ sc_item_at.nd rfl (by trivial) (@Zw _ _ _ _ _ _ _ _ _ _ g_span_at hr.m rfl (Zg (pv 0) (Zg (pv 1) Zz rfl) rfl) (by decide) rfl rfl) rfl (by trivial)) (@Zv _ _ _ (@Zd _ _ _ _ (@Zw _ _ _ _ _ _ _ _ _ _ g_unpacked_between hr.m rfl (Zg (pv 0) (Zg (@Zr _ _ _ _ _ _ _ Zp (pv 2) Zx (fun _ _ => rfl)) (Zg (@Zr _ _ _ _ _ _ _ Zp (pv 2) Zx (fun _ _ => rfl)) Zz rfl) rfl) rfl) (by decide) rfl rfl)))), ?_⟩
 refine ⟨_,rfl,_,rfl,a,pa,xs,it,sts,q,e,rfl,hS,gd,ln,hpa,ax,sk,rc,fun r H2 s2 hr2 => ?_⟩
 exact ⟨_,rfl,_,rfl,r,_,_,_,rfl,rfl,hr2,rfl,_,rfl,r,_,_,_,rfl,rfl,hr2,rfl,a,Zi it,q,e,rfl,s2.up _ _ hS,inn.at',inn.gd,by omega,by omega,inn.ln,fun v H3 s3 dv => qq v H3 (s2.trans s3) dv⟩
end
abbrev s_law_parts:Stmt:=top 55
abbrev N_law_parts:List Str:=["_law_item_here"]
theorem sc_law_parts:Zs N_law_parts ["_law_item_here"] (Zk s_law_parts):=by trivial
abbrev Uz:Stmt:=top 59
abbrev N_law_steps:List Str:=["_law_item_here"]
theorem sc_law_steps:Zs N_law_steps ["_law_item_here"] (Zk Uz):=by trivial
abbrev s_law_rest:Stmt:=top 60
abbrev N_law_rest:List Str:=["_law_item_here","_law_lengths"]
theorem sc_law_rest:Zs N_law_rest ["_law_item_here"] (Zk s_law_rest):=by trivial
def Yx:IT→List IT
 | .arm _ e => [e]
 | .lst _ _ es => es
 | _ => []
def spParts (K:W.Frag):Sp:=fun vs H Q _ => ∃ (v:V) (it:IT),vs = [v]∧Yv K H (toD it) v∧GdI it∧(Yx it).length ≤ 1000000∧∀ (r:Addr) (us:List V) (H':Hp),Zb H H'→H' r = some (.lst us)→Zn K H' (toDs (Yx it)) us→Q (.ref r) H'
def stp1 (k:Nat):Lb→Stp × Int
 | .no => (.at (k:Int),0)
 | .key x => (.key x,1 + (x.length:Int))
 | .num n => (.field n,1 + (if decide (n > 127) = true then 1 else 0))
def stpL (k:Nat):List Lb→List (Stp × Int)
 | [] => []
 | l :: ls => stp1 k l :: stpL (k + 1) ls
def Y5:IT→List (Stp × Int)
 | .arm n _ => [(.arm n,0)]
 | .lst _ ls _ => stpL 0 ls
 | _ => []
def sD (p:Stp × Int):D:=.tup [stD p.1,.int p.2]
theorem stpL_len:∀ (k:Nat) (ls:List Lb),(stpL k ls).length = ls.length
 | _,[] => rfl
 | k,_ :: ls => by simp only [stpL,List.length_cons,stpL_len (k + 1) ls]
theorem stpL_get:∀ {k j:Nat} {ls:List Lb} {l:Lb},ls[j]? = some l→(stpL k ls)[j]? = some (stp1 (k + j) l)
 | _,_,[],_,h => by simp at h
 | k,0,_ :: ls,l,h => by
  simp at h
  subst h
  rfl
 | k,j + 1,_ :: ls,l,h => by
  have:=stpL_get (k:=k + 1) (j:=j) (ls:=ls) (l:=l) (by simpa using h)
  rw [show k + 1 + j = k + (j + 1) by omega] at this
  simpa [stpL] using this
theorem sD_noL (p:Stp × Int):noL (sD p) = true:=by obtain ⟨s,n⟩:=p; cases s <;> rfl
theorem sDs_noL (l:List (Stp × Int)):noLs (l.map sD) = true:=noLs_all fun d m => by
 obtain ⟨p,_,rfl⟩:=List.mem_map.mp m
 exact sD_noL p
def spSteps (K:W.Frag):Sp:=fun vs H Q _ => ∃ (v:V) (it:IT),vs = [v]∧Yv K H (toD it) v∧GdI it∧(Yx it).length ≤ 1000000∧∀ (r:Addr) (us:List V) (H':Hp),Zb H H'→H' r = some (.lst us)→Zn K H' ((Y5 it).map sD) us→Q (.ref r) H'
theorem toDs_take (es:List IT) (k:Nat):noLs ((toDs es).take k) = true:=by
 have h:∀ ds:List D,(∀ d ∈ ds,noL d = true)→noLs ds = true:=by
  intro ds
  induction ds with
  | nil => intro _; rfl
  | cons d ds ih => intro h; simp only [noLs,Bool.and_eq_true]; exact ⟨h d List.mem_cons_self,ih fun e m => h e (List.mem_cons_of_mem _ m)⟩
 refine h _ fun d m => ?_
 have m':=List.mem_of_mem_take m
 rw [Y6] at m'
 obtain ⟨e,_,rfl⟩:=List.mem_map.mp m'
 exact Z7 e
theorem Vq (es:List IT):(toDs es).length = es.length:=by rw [Y6,List.length_map]
theorem toDs_at {es:List IT} {k:Nat} {e:IT} (h:es[k]? = some e):(toDs es)[k]? = some (toD e):=by rw [Y6,List.getElem?_map,h]; rfl
theorem pairL {s:Nat} (hs:s = 1 ∨ s = 2) {l:Lb} (h:LbS s l):(s = 1∧∃ x,l = .key x∧V6 x) ∨ (s = 2∧∃ n,l = .num n∧1 ≤ n∧n ≤ 999):=by
 rcases h with ⟨e,_⟩ | h | h
 ·omega
 ·exact .inl h
 ·exact .inr h
theorem lg1 {n:Int} (h:n < 128):(Lg n).length = 1:=by unfold Lg; rw [Ve 19 h]; rfl
theorem lg2 {n:Int} (h:128 ≤ n) (h2:n ≤ 16383):(Lg n).length = 2:=by
 unfold Lg
 rw [Lf_big 18 h,List.length_cons,Ve 18 (by omega)]
 rfl
section
variable {P:Program} {w:World} {K:W.Frag} {mg:Str→Option Value} {base:Heap} {f:Addr} {fd:FuncData}
theorem ok_law_parts (F:Uj K "_law_parts" "_law_parts" s_law_parts f fd) (m:Bn mg):Yy P w K mg base Um 1 f fd ["_law_item_here"] (spParts K):=by
 refine F.ok sc_law_parts (fun vs H Q E h => ?_) (fun cdv A outer s H vs Q E hr h => ?_)
 ·obtain ⟨v,_,rfl,_⟩:=h
  rfl
 obtain ⟨v,it,rfl,hd,gd,le,q⟩:=h
 refine ⟨_,(@Zj _ _ _ _ _ (@Z8 _ _ _ _ _ _ _ _ (@Zm _ _ _ _ _ _ _ _ Yf (@Zr _ _ _ _ _ _ _ Zp (pv 0) Zx (fun _ _ => rfl)) Zc (Zt _)) (@Zv _ _ _ (@Zd _ _ _ _ (@Yt _ _ _ _ _ _ _ _ _ call_list_of rfl m.list b_list (Zg (@Zr _ _ _ _ _ _ _ Zp (pv 0) Zx (fun _ _ => rfl)) Zz rfl) (by trivial) (by trivial) (by trivial) (by trivial)))) Za) (@Zj _ _ _ _ _ (@Z8 _ _ _ _ _ _ _ _ (@Zm _ _ _ _ _ _ _ _ op_in_seq (@Zr _ _ _ _ _ _ _ Zp (pv 0) Zx (fun _ _ => rfl)) (@Z3 _ _ _ _ _ (Zg Zc (Zg Zc Zz rfl) rfl)) rfl) (@Zv _ _ _ (@Zd _ _ _ _ (@Vw _ N_law_parts (Zk s_law_parts) ["_law_pair"] [none] _ _ _ _ _ _ _ _ _ _ rfl (@pi_tup _ _ _ _ (@Zr _ _ _ _ _ _ _ Zp (pv 0) Zx (fun _ _ => rfl))) ⟨rfl,rfl,by decide +kernel,by decide +kernel⟩ (fun _ _ _ => (@Z0 _ 0 _ _ (show List.Nodup (["_law_pair"]:List Str) from by decide +kernel) rfl (Or.inl rfl) (by trivial))) (fun _ _ _ => Vf) (fun _ _ _ => (@Zr _ _ _ _ _ _ _ Zp (pv 0) Zx (fun _ _ => rfl))) (by trivial)))) Za) (@Zj _ _ _ _ _ (@Z8 _ _ _ _ _ _ _ _ (@Zm _ _ _ _ _ _ _ _ Yf (@Zr _ _ _ _ _ _ _ Zp (pv 0) Zx (fun _ _ => rfl)) Zc (Zt _)) (@Zv _ _ _ (@Zd _ _ _ _ (@Y2 _ _ _ _ (Zg (@Zr _ _ _ _ _ _ _ Zp (pv 0) Zx (fun _ _ => rfl)) Zz rfl)))) Za) (@Zv _ _ _ (@Zd _ _ _ _ (@Y2 _ _ _ _ Zz)))))), ?_⟩
 cases it with
 | whole n =>
  obtain ⟨p,x,y,rfl,hp,rfl,hy⟩:=isD2 hd
  refine ⟨_,rfl,p,_,_,_,rfl,rfl,hp,rfl,rfl,_,rfl,Yq (by decide +kernel) ?_⟩
  refine ⟨_,rfl,p,_,_,_,rfl,rfl,hp,rfl,(sz 2),fun t2 h2 => ⟨t2,_,rfl,.inr (Z9.of Zq),rfl,rfl,_,rfl,Yq (by decide +kernel) ?_⟩⟩
  have s2:=Zb.lay (o:=.tup [.str "map",.str "rec"]) h2
  exact ⟨_,rfl,p,_,_,_,rfl,rfl,s2.up _ _ hp,rfl,rfl,_,rfl,Yq (by decide +kernel) ⟨(sz 0),fun l hl => q l [] _ (s2.trans (Zb.lay hl)) Zq rfl⟩⟩
 | text n =>
  obtain ⟨p,x,y,rfl,hp,rfl,hy⟩:=isD2 hd
  refine ⟨_,rfl,p,_,_,_,rfl,rfl,hp,rfl,rfl,_,rfl,Yq (by decide +kernel) ?_⟩
  refine ⟨_,rfl,p,_,_,_,rfl,rfl,hp,rfl,(sz 2),fun t2 h2 => ⟨t2,_,rfl,.inr (Z9.of Zq),rfl,rfl,_,rfl,Yq (by decide +kernel) ?_⟩⟩
  have s2:=Zb.lay (o:=.tup [.str "map",.str "rec"]) h2
  exact ⟨_,rfl,p,_,_,_,rfl,rfl,s2.up _ _ hp,rfl,rfl,_,rfl,Yq (by decide +kernel) ⟨(sz 0),fun l hl => q l [] _ (s2.trans (Zb.lay hl)) Zq rfl⟩⟩
 | arm n e =>
  obtain ⟨p,x,y,z,rfl,hp,rfl,hy,hz⟩:=isD3 hd
  refine ⟨_,rfl,p,_,_,_,rfl,rfl,hp,rfl,rfl,_,rfl,Yq (by decide +kernel) ?_⟩
  refine ⟨_,rfl,p,_,_,_,rfl,rfl,hp,rfl,(sz 2),fun t2 h2 => ⟨t2,_,rfl,.inr (Z9.of Zq),rfl,rfl,_,rfl,Yq (by decide +kernel) ?_⟩⟩
  have s2:=Zb.lay (o:=.tup [.str "map",.str "rec"]) h2
  exact ⟨_,rfl,p,_,_,_,rfl,rfl,s2.up _ _ hp,rfl,rfl,_,rfl,Yp (by decide +kernel) ⟨_,rfl,p,_,_,_,rfl,rfl,s2.up _ _ hp,rfl,(sz 1),fun l hl => q l _ _ (s2.trans (Zb.lay hl)) Zq (Zn.one (Yv.up (s2.up.trans (Yk hl)) _ _ (Z7 e) hz))⟩⟩
 | lst st ls es =>
  obtain ⟨p,x,y,rfl,hp,rfl,hy⟩:=isD2 hd
  obtain ⟨c,ws,rfl,hc,ar⟩:=hy
  obtain ⟨hs2,hl,gl,gs⟩:=gd
  replace le:es.length ≤ 1000000:=le
  by_cases s0:st = 0
  ·subst s0
   have el:ls = List.replicate es.length .no:=List.eq_replicate_iff.mpr ⟨hl,gl⟩
   rw [el,prt_no _ _ (Vq es)] at ar
   exact ⟨_,rfl,p,_,_,_,rfl,rfl,hp,rfl,rfl,_,rfl,Yp (decide_eq_true rfl) ⟨_,rfl,p,_,_,_,rfl,rfl,hp,rfl,c,ws,rfl,.inr hc,fun l hl' => q l ws _ (Zb.lay hl') Zq (Zn.up (Yk hl') _ _ (by have:=toDs_take es es.length; rwa [← Vq es,List.take_length] at this) ar)⟩⟩
  ·have hs:st = 1 ∨ st = 2:=by omega
   refine ⟨_,rfl,p,_,_,_,rfl,rfl,hp,rfl,rfl,_,rfl,Yq (by rcases hs with rfl | rfl <;> decide +kernel) ?_⟩
   refine ⟨_,rfl,p,_,_,_,rfl,rfl,hp,rfl,(sz 2),fun t2 h2 => ⟨t2,_,rfl,.inr (Z9.of Zq),rfl,rfl,_,rfl,Yp (by rcases hs with rfl | rfl <;> decide +kernel) ?_⟩⟩
   have s2:=Zb.lay (o:=.tup [.str "map",.str "rec"]) h2
   have hc2:=s2.up (K:=K) _ _ hc
   refine ⟨_,rfl,p,_,_,_,rfl,rfl,s2.up _ _ hp,rfl,c,rfl,⟨_,hc2⟩,fun Dd fp sx hD => ?_⟩
   have wl:ws.length = es.length:=by rw [← ar.length,prtDs_len (by rw [Vq]; exact hl),Vq]
   have uD:∀ ys:List V,Up K (Z4 H t2 (.tup [.str "map",.str "rec"])) (Z4 (Z4 H t2 (.tup [.str "map",.str "rec"])) Dd (.lst ys)):=fun ys => Yk hD
   refine comp_tup (K:=K) (a:=c) (xs:=ws) (fun k ys σ H5 => H5 = Z4 (Z4 H t2 (.tup [.str "map",.str "rec"])) Dd (.lst ys)∧(∃ o,σ = [o])∧Zn K (Z4 H t2 (.tup [.str "map",.str "rec"])) ((toDs es).take k) ys) ⟨rfl,⟨_,rfl⟩,rfl⟩ ?_ ?_ ?_
   ·rintro k ys σ H5 hk ⟨rfl,_⟩
    exact ⟨uD ys _ _ hc2,Zq⟩
   ·rintro k x ys σ H5 hx ⟨rfl,⟨o,rfl⟩,ah⟩
    have hk:k < es.length:=by have:=(List.getElem?_eq_some_iff.mp hx).1; omega
    obtain ⟨lb,hL⟩:∃ lb,ls[k]? = some lb:=⟨_,List.getElem?_eq_getElem (by omega)⟩
    obtain ⟨ek,hEk⟩:∃ ek,es[k]? = some ek:=⟨_,List.getElem?_eq_getElem hk⟩
    have hE:=toDs_at hEk
    obtain ⟨x',hx',dx⟩:=ar.get (prtDs_get hL hE)
    rw [hx] at hx'
    cases hx'
    have yl:ys.length = k:=by rw [← ah.length,List.length_take,Vq]; omega
    obtain ⟨t,u2,ht,hu2⟩:∃ t u1u2,(∃ u1,x = .ref t∧Z9 K H t [u1,u1u2])∧Yv K H (toD ek) u1u2:=by
     rcases pairL hs (GdL.at hs2 gl _ (List.mem_of_getElem? hL)) with ⟨_,z,ez,_⟩ | ⟨_,z,ez,_⟩ <;> rw [ez] at dx <;> (obtain ⟨t,u1,u2,rfl,ht,_,h2⟩:=isD2 dx; exact ⟨t,u2,⟨u1,rfl,ht⟩,h2⟩)
    obtain ⟨u1,rfl,ht⟩:=ht
    refine nameT ⟨_,rfl,t,_,_,_,rfl,rfl,uD ys _ _ (s2.up _ _ ht),rfl,Zq, ?_, ?_,⟨_,rfl⟩, ?_⟩
    ·have:=sizeLine_eq
     omega
    ·rw [upd_upd]
    ·rw [List.take_succ,hE]
     exact Zn.append ah (Zn.one (Yv.up s2.up _ _ (Z7 ek) hu2))
   rintro ys σ H5 ⟨rfl,_,ah⟩
   have e5:(toDs es).take ws.length = toDs es:=by rw [wl, ← Vq es,List.take_length]
   rw [e5] at ah
   refine q Dd ys _ (s2.trans (Zb.lay hD)) Zq (Zn.up (uD ys) _ _ (by have:=toDs_take es es.length; rwa [← Vq es,List.take_length] at this) ah)
end
theorem st_at {ls:List Lb} {k:Nat} {l:Lb} (h:ls[k]? = some l):((stpL 0 ls).map sD).take (k + 1) = ((stpL 0 ls).map sD).take k ++ [sD (stp1 (0 + k) l)]:=by
 rw [List.take_succ,List.getElem?_map,stpL_get h]
 rfl
section
variable {P:Program} {w:World} {K:W.Frag} {mg:Str→Option Value} {base:Heap} {f:Addr} {fd:FuncData}
theorem steps_next {H H5:Hp} {Dd t1 t2:Addr} {ys:List V} {ds:List D} {st:Stp} {a b:V} {mm:Int} (hD:H Dd = none) (s5:Zb H H5) (h5:H5 Dd = some (.lst ys)) (nl:noLs ds = true) (ar:Zn K H5 ds ys) (ha:a = .str (stW st)) (hb:Yv K H5 (stV st) b) (h1:H5 t1 = none) (h2:Z4 H5 t1 (.tup [a,b]) t2 = none) :
  Z4 (Z4 H5 t1 (.tup [a,b])) t2 (.tup [.ref t1,.int mm]) Dd = some (.lst ys)∧Zb H (Z4 (Z4 (Z4 H5 t1 (.tup [a,b])) t2 (.tup [.ref t1,.int mm])) Dd (.lst (ys ++ [.ref t2])))∧Zn K (Z4 (Z4 (Z4 H5 t1 (.tup [a,b])) t2 (.tup [.ref t1,.int mm])) Dd (.lst (ys ++ [.ref t2]))) (ds ++ [sD (st,mm)]) (ys ++ [.ref t2]):=by
 have n1:Dd ≠ t1:=Zl h5 h1
 have n2:Dd ≠ t2:=Zl (by rw [Zh n1]; exact h5) h2
 have n12:t1 ≠ t2:=Zl Zq h2
 have hx:Z4 (Z4 H5 t1 (.tup [a,b])) t2 (.tup [.ref t1,.int mm]) Dd = some (.lst ys):=by rw [Zh n2,Zh n1]; exact h5
 have u:Up K H5 (Z4 (Z4 (Z4 H5 t1 (.tup [a,b])) t2 (.tup [.ref t1,.int mm])) Dd (.lst (ys ++ [.ref t2]))):=((Yk (K:=K) h1 (o:=.tup [a,b])).trans (Yk h2 (o:=.tup [.ref t1,.int mm]))).trans (up_set hx)
 refine ⟨hx,((s5.trans (Zb.lay h1)).trans (Zb.lay h2)).put hD,Zn.append (Zn.up u _ _ nl ar) (Zn.one ⟨t2,_,rfl,Z9.of ?_,Zn.two ⟨t1,_,rfl,Z9.of ?_,Zn.two (show a = .str (stW st) from ha) (Yv.up u _ _ (by cases st <;> rfl) hb)⟩ rfl⟩)⟩
 ·rw [Zh (Ne.symm n2)]; exact Zq
 ·rw [Zh (Ne.symm n1),Zh n12]; exact Zq
theorem ok_law_steps (F:Uj K "_law_steps" "_law_steps" Uz f fd) (m:Bn mg):Yy P w K mg base Um 1 f fd ["_law_item_here"] (spSteps K):=by
 refine F.ok sc_law_steps (fun vs H Q E h => ?_) (fun cdv A outer s H vs Q E hr h => ?_)
 ·obtain ⟨v,_,rfl,_⟩:=h
  rfl
 obtain ⟨v,it,rfl,hd,gd,le,q⟩:=h
 refine ⟨_,(@Zj _ _ _ _ _ (@Z8 _ _ _ _ _ _ _ _ (@Zm _ _ _ _ _ _ _ _ Yf (@Zr _ _ _ _ _ _ _ Zp (pv 0) Zx (fun _ _ => rfl)) Zc (Zt _)) (@Zv _ _ _ (@Zd _ _ _ _ (@Y2 _ _ _ _ (Zg (@Z3 _ _ _ _ _ (Zg (@Z3 _ _ _ _ _ (Zg Zc (Zg (@Zr _ _ _ _ _ _ _ Zp (pv 0) Zx (fun _ _ => rfl)) Zz rfl) rfl)) (Zg Zx Zz rfl) rfl)) Zz rfl)))) Za) (@Zj _ _ _ _ _ (@Z8 _ _ _ _ _ _ _ _ (@Zm _ _ _ _ _ _ _ _ Yf (@Zr _ _ _ _ _ _ _ Zp (pv 0) Zx (fun _ _ => rfl)) Zc (Zt _)) (@Zv _ _ _ (@Zd _ _ _ _ (@Vw _ N_law_steps (Zk Uz) ["_law_k"] [none] _ _ _ _ _ _ _ _ _ _ rfl (@Vy _ _ _ _ _ _ rfl m.range (Zg (@Z5 _ _ _ _ _ _ _ _ _ Yg rfl m.len b_len (Zg (@Zr _ _ _ _ _ _ _ Zp (pv 0) Zx (fun _ _ => rfl)) Zz rfl) (by decide) (by decide) rfl rfl) Zz rfl) (by trivial)) ⟨rfl,rfl,by decide +kernel,by decide +kernel⟩ (fun _ _ _ => (@Z0 _ 0 _ _ (show List.Nodup (["_law_k"]:List Str) from by decide +kernel) rfl (Or.inl rfl) (by trivial))) (fun _ _ _ => Vf) (fun _ _ _ => (@Z3 _ _ _ _ _ (Zg (@Z3 _ _ _ _ _ (Zg Zc (Zg (pv 0) Zz rfl) rfl)) (Zg Zx Zz rfl) rfl))) (by trivial)))) Za) (@Zj _ _ _ _ _ (@Z8 _ _ _ _ _ _ _ _ (@Zm _ _ _ _ _ _ _ _ Yf (@Zr _ _ _ _ _ _ _ Zp (pv 0) Zx (fun _ _ => rfl)) Zc (Zt _)) (@Zv _ _ _ (@Zd _ _ _ _ (@Vw _ N_law_steps (Zk Uz) ["_law_pair"] [none] _ _ _ _ _ _ _ _ _ _ rfl (@pi_tup _ _ _ _ (@Zr _ _ _ _ _ _ _ Zp (pv 0) Zx (fun _ _ => rfl))) ⟨rfl,rfl,by decide +kernel,by decide +kernel⟩ (fun _ _ _ => (@Z0 _ 0 _ _ (show List.Nodup (["_law_pair"]:List Str) from by decide +kernel) rfl (Or.inl rfl) (by trivial))) (fun _ _ _ => Vf) (fun _ _ _ => (@Z3 _ _ _ _ _ (Zg (@Z3 _ _ _ _ _ (Zg Zc (Zg (@Zr _ _ _ _ _ _ _ Zp (pv 0) Zx (fun _ _ => rfl)) Zz rfl) rfl)) (Zg (@Zf _ _ _ _ _ _ _ _ Z1 Zx (@Z5 _ _ _ _ _ _ _ _ _ call_len_str rfl m.len b_len (Zg (@Zr _ _ _ _ _ _ _ Zp (pv 0) Zx (fun _ _ => rfl)) Zz rfl) (by decide) (by decide) rfl rfl)) Zz rfl) rfl))) (by trivial)))) Za) (@Zj _ _ _ _ _ (@Z8 _ _ _ _ _ _ _ _ (@Zm _ _ _ _ _ _ _ _ Yf (@Zr _ _ _ _ _ _ _ Zp (pv 0) Zx (fun _ _ => rfl)) Zc (Zt _)) (@Zv _ _ _ (@Zd _ _ _ _ (@Vw _ N_law_steps (Zk Uz) ["_law_pair"] [none] _ _ _ _ _ _ _ _ _ _ rfl (@pi_tup _ _ _ _ (@Zr _ _ _ _ _ _ _ Zp (pv 0) Zx (fun _ _ => rfl))) ⟨rfl,rfl,by decide +kernel,by decide +kernel⟩ (fun _ _ _ => (@Z0 _ 0 _ _ (show List.Nodup (["_law_pair"]:List Str) from by decide +kernel) rfl (Or.inl rfl) (by trivial))) (fun _ _ _ => Vf) (fun _ _ _ => (@Z3 _ _ _ _ _ (Zg (@Z3 _ _ _ _ _ (Zg Zc (Zg (@Zr _ _ _ _ _ _ _ Zp (pv 0) Zx (fun _ _ => rfl)) Zz rfl) rfl)) (Zg (@Zf _ _ _ _ _ _ _ _ Z1 Zx (@Yt _ _ _ _ _ _ _ _ _ call_int1 rfl m.int b_int (Zg (@Vb _ _ _ _ _ _ _ _ op_gt (@Zr _ _ _ _ _ _ _ Zp (pv 0) Zx (fun _ _ => rfl)) Zx (Zt _)) Zz rfl) (by trivial) (by trivial) (by trivial) (by trivial))) Zz rfl) rfl))) (by trivial)))) Za) (@Zv _ _ _ (@Zd _ _ _ _ (@Y2 _ _ _ _ Zz))))))), ?_⟩
 cases it with
 | whole n =>
  obtain ⟨p,x,y,rfl,hp,rfl,hy⟩:=isD2 hd
  refine ⟨_,rfl,p,_,_,_,rfl,rfl,hp,rfl,rfl,_,rfl,Yq (by decide +kernel) ⟨_,rfl,p,_,_,_,rfl,rfl,hp,rfl,rfl,_,rfl,Yq (by decide +kernel) ⟨_,rfl,p,_,_,_,rfl,rfl,hp,rfl,rfl,_,rfl,Yq (by decide +kernel) ?_⟩⟩⟩
  exact ⟨_,rfl,p,_,_,_,rfl,rfl,hp,rfl,rfl,_,rfl,Yq (by decide +kernel) ⟨(sz 0),fun l hl => q l [] _ (Zb.lay hl) Zq rfl⟩⟩
 | text n =>
  obtain ⟨p,x,y,rfl,hp,rfl,hy⟩:=isD2 hd
  refine ⟨_,rfl,p,_,_,_,rfl,rfl,hp,rfl,rfl,_,rfl,Yq (by decide +kernel) ⟨_,rfl,p,_,_,_,rfl,rfl,hp,rfl,rfl,_,rfl,Yq (by decide +kernel) ⟨_,rfl,p,_,_,_,rfl,rfl,hp,rfl,rfl,_,rfl,Yq (by decide +kernel) ?_⟩⟩⟩
  exact ⟨_,rfl,p,_,_,_,rfl,rfl,hp,rfl,rfl,_,rfl,Yq (by decide +kernel) ⟨(sz 0),fun l hl => q l [] _ (Zb.lay hl) Zq rfl⟩⟩
 | arm n e =>
  obtain ⟨p,x,y,z,rfl,hp,rfl,rfl,hz⟩:=isD3 hd
  refine ⟨_,rfl,p,_,_,_,rfl,rfl,hp,rfl,rfl,_,rfl,Yp (by decide +kernel) ⟨_,rfl,p,_,_,_,rfl,rfl,hp,rfl,(sz 2),fun t1 h1 => ⟨(sz 2),fun t2 h2 => ⟨(sz 1),fun l hl => ?_⟩⟩⟩⟩
  have n12:t1 ≠ t2:=Zl Zq h2
  refine q l _ _ ((Zb.lay h1).trans ((Zb.lay h2).trans (Zb.lay hl))) Zq (Zn.one ⟨t2,_,rfl,Yk hl _ _ (Z9.of Zq),Zn.two ⟨t1,_,rfl,Yk hl _ _ (Z9.of (by rw [Zh n12]; exact Zq)),Zn.two rfl rfl⟩ rfl⟩)
 | lst st ls es =>
  obtain ⟨p,x,y,rfl,hp,rfl,hy⟩:=isD2 hd
  obtain ⟨c,ws,rfl,hc,ar⟩:=hy
  obtain ⟨hs2,hl,gl,gs⟩:=gd
  replace le:es.length ≤ 1000000:=le
  have wl:ws.length = es.length:=by rw [← ar.length,prtDs_len (by rw [Vq]; exact hl),Vq]
  have hz:∀ n:Nat,n ≤ 1000000→n < sizeLine:=fun n h => by have:=sizeLine_eq; omega
  have yl:∀ {k:Nat} {ys:List V} {H5:Hp},k < es.length→Zn K H5 (((stpL 0 ls).map sD).take k) ys→ys.length < sizeLine:=fun {k ys H5} hk h => hz _ (by
   rw [← h.length,List.length_take]; omega)
  have fin:∀ {Dd:Addr} {ys:List V} {H5:Hp} {n:Nat},n = es.length→Zb H H5→H5 Dd = some (.lst ys)→Zn K H5 (((stpL 0 ls).map sD).take n) ys→Q (.ref Dd) H5:=fun {Dd ys H5 n} e s5 h5 a5 => by
   refine q Dd ys H5 s5 h5 ?_
   have l5:((stpL 0 ls).map sD).take n = (stpL 0 ls).map sD:=List.take_of_length_le (by rw [List.length_map,stpL_len]; omega)
   rw [l5] at a5
   exact a5
  refine ⟨_,rfl,p,_,_,_,rfl,rfl,hp,rfl,rfl,_,rfl,Yq (vs_ne (srt_ne st).2.2) ?_⟩
  have key:∀ j:Nat,j < es.length→∃ lb ek,ls[j]? = some lb∧es[j]? = some ek∧∀ x,ws[j]? = some x→Yv K H (prtD lb (toD ek)) x:=fun j hj => by
   obtain ⟨lb,hL⟩:∃ lb,ls[j]? = some lb:=⟨_,List.getElem?_eq_getElem (by omega)⟩
   obtain ⟨ek,hEk⟩:∃ ek,es[j]? = some ek:=⟨_,List.getElem?_eq_getElem hj⟩
   refine ⟨lb,ek,hL,hEk,fun x hx => ?_⟩
   obtain ⟨x',hx',dx⟩:=ar.get (prtDs_get hL (toDs_at hEk))
   rw [hx] at hx'
   cases hx'
   exact dx
  by_cases s0:st = 0
  ·subst s0
   refine ⟨_,rfl,p,_,_,_,rfl,rfl,hp,rfl,rfl,_,rfl,Yp (decide_eq_true rfl) ⟨_,rfl,p,_,_,_,rfl,rfl,hp,rfl,c,ws,rfl,.inr hc,_,rfl,by omega,by omega,fun Dd fp sx hD => ?_⟩⟩
   refine comp_range (n:=ws.length) (fun k ys σ H5 => Zb H H5∧H5 Dd = some (.lst ys)∧(∃ o,σ = [o])∧Zn K H5 (((stpL 0 ls).map sD).take k) ys) ⟨Zb.lay hD,Zq,⟨_,rfl⟩,rfl⟩ ?_ ?_ ?_
   ·rintro k ys σ H5 hk ⟨_,h5,_⟩
    exact h5
   ·rintro k ys σ H5 hk ⟨s5,h5,⟨o,rfl⟩,a5⟩
    obtain ⟨lb,ek,hL,hE,_⟩:=key k (by omega)
    have en:lb = .no:=gl _ (List.mem_of_getElem? hL)
    subst en
    refine nameT ⟨_,rfl,(sz 2),fun t1 h1 => ⟨(sz 2),fun t2 h2 => ?_⟩⟩
    obtain ⟨e1,e2,e3⟩:=steps_next (st:=.at ((0 + k:Nat):Int)) (mm:=0) hD s5 h5 (by rw [← List.map_take]; exact sDs_noL _) a5 rfl (show V.int (0 + (k:Int)) = V.int ((0 + k:Nat):Int) by rw [Nat.zero_add,Int.zero_add]) h1 h2
    refine ⟨e1,yl (by omega) a5,e2,Zq,⟨_,rfl⟩, ?_⟩
    rw [st_at hL]
    exact e3
   ·rintro ys σ H5 ⟨s5,h5,_,a5⟩
    exact fin wl s5 h5 a5
  ·refine ⟨_,rfl,p,_,_,_,rfl,rfl,hp,rfl,rfl,_,rfl,Yq (by rcases (show st = 1 ∨ st = 2 by omega) with rfl | rfl <;> decide +kernel) ?_⟩
   by_cases s1:st = 1
   ·subst s1
    refine ⟨_,rfl,p,_,_,_,rfl,rfl,hp,rfl,rfl,_,rfl,Yp (decide_eq_true rfl) ⟨_,rfl,p,_,_,_,rfl,rfl,hp,rfl,c,rfl,⟨_,hc⟩,fun Dd fp sx hD => ?_⟩⟩
    refine comp_tup (K:=K) (a:=c) (xs:=ws) (fun k ys σ H5 => Zb H H5∧H5 Dd = some (.lst ys)∧(∃ o,σ = [o])∧Zn K H5 (((stpL 0 ls).map sD).take k) ys) ⟨Zb.lay hD,Zq,⟨_,rfl⟩,rfl⟩ ?_ ?_ ?_
    ·rintro k ys σ H5 hk ⟨s5,h5,_⟩
     exact ⟨s5.up _ _ hc,h5⟩
    ·rintro k x ys σ H5 hx ⟨s5,h5,⟨o,rfl⟩,a5⟩
     have hk:k < es.length:=by have:=(List.getElem?_eq_some_iff.mp hx).1; omega
     obtain ⟨lb,ek,hL,hE,dx⟩:=key k hk
     replace dx:=dx x hx
     rcases GdL.at hs2 gl _ (List.mem_of_getElem? hL) with ⟨z,_⟩ | ⟨_,z,rfl,nz⟩ | ⟨z,_⟩
     ·omega
     ·obtain ⟨t,u1,u2,rfl,ht,rfl,_⟩:=isD2 dx
      have ht5:=s5.up (K:=K) _ _ ht
      refine nameT ⟨_,rfl,t,_,_,_,rfl,rfl,ht5,rfl,(sz 2),fun t1 h1 => ?_⟩
      have ht6:=(Yk h1 (o:=.tup [.str "key",.str z])) _ _ ht5
      refine ⟨_,rfl,t,_,_,_,rfl,rfl,ht6,rfl,z,rfl,by have:=nz.2.1; have:=sizeLine_eq; omega,_,_,rfl,rfl,(sz 2),fun t2 h2 => ?_⟩
      obtain ⟨e1,e2,e3⟩:=steps_next (st:=.key z) (mm:=1 + (z.length:Int)) hD s5 h5 (by rw [← List.map_take]; exact sDs_noL _) a5 rfl rfl h1 h2
      refine ⟨e1,yl hk a5,e2,Zq,⟨_,rfl⟩, ?_⟩
      rw [st_at hL]
      exact e3
     ·omega
    ·rintro ys σ H5 ⟨s5,h5,_,a5⟩
     exact fin wl s5 h5 a5
   ·have s2:st = 2:=by omega
    subst s2
    refine ⟨_,rfl,p,_,_,_,rfl,rfl,hp,rfl,rfl,_,rfl,Yq (by decide +kernel) ?_⟩
    refine ⟨_,rfl,p,_,_,_,rfl,rfl,hp,rfl,rfl,_,rfl,Yp (decide_eq_true rfl) ⟨_,rfl,p,_,_,_,rfl,rfl,hp,rfl,c,rfl,⟨_,hc⟩,fun Dd fp sx hD => ?_⟩⟩
    refine comp_tup (K:=K) (a:=c) (xs:=ws) (fun k ys σ H5 => Zb H H5∧H5 Dd = some (.lst ys)∧(∃ o,σ = [o])∧Zn K H5 (((stpL 0 ls).map sD).take k) ys) ⟨Zb.lay hD,Zq,⟨_,rfl⟩,rfl⟩ ?_ ?_ ?_
    ·rintro k ys σ H5 hk ⟨s5,h5,_⟩
     exact ⟨s5.up _ _ hc,h5⟩
    ·rintro k x ys σ H5 hx ⟨s5,h5,⟨o,rfl⟩,a5⟩
     have hk:k < es.length:=by have:=(List.getElem?_eq_some_iff.mp hx).1; omega
     obtain ⟨lb,ek,hL,hE,dx⟩:=key k hk
     replace dx:=dx x hx
     rcases GdL.at hs2 gl _ (List.mem_of_getElem? hL) with ⟨z,_⟩ | ⟨z,_⟩ | ⟨_,n,rfl,n1,n9⟩
     ·omega
     ·omega
     ·obtain ⟨t,u1,u2,rfl,ht,rfl,_⟩:=isD2 dx
      have ht5:=s5.up (K:=K) _ _ ht
      refine nameT ⟨_,rfl,t,_,_,_,rfl,rfl,ht5,rfl,(sz 2),fun t1 h1 => ?_⟩
      have ht6:=(Yk h1 (o:=.tup [.str "field",.int n])) _ _ ht5
      refine ⟨_,rfl,t,_,_,_,rfl,rfl,ht6,rfl,_,_,rfl,rfl,.inr ⟨_,rfl, ?_⟩⟩
      refine ⟨_,_,rfl,rfl,(sz 2),fun t2 h2 => ?_⟩
      obtain ⟨e1,e2,e3⟩:=steps_next (st:=.field n) (mm:=1 + (if decide (n > 127) = true then 1 else 0)) hD s5 h5 (by rw [← List.map_take]; exact sDs_noL _) a5 rfl rfl h1 h2
      refine ⟨e1,yl hk a5,e2,Zq,⟨_,rfl⟩, ?_⟩
      rw [st_at hL]
      exact e3
    ·rintro ys σ H5 ⟨s5,h5,_,a5⟩
     exact fin wl s5 h5 a5
end
def lbs (ls:List Lb):List Int:=ls.map fun l => ((lbB l).length:Int)
theorem lbs_at {ls:List Lb} {k:Nat} {l:Lb} (h:ls[k]? = some l):(lbs ls).take (k + 1) = (lbs ls).take k ++ [((lbB l).length:Int)]:=by
 rw [List.take_succ]
 unfold lbs
 rw [List.getElem?_map,h]
 rfl
theorem key_len {z:Str} (h:V6 z):((lbB (.key z)).length:Int) = 1 + (z.length:Int):=by
 show ((sgB z).length:Int) = _
 unfold sgB
 rw [List.length_append,Y0,lg1 (by have:=h.2.1; omega)]
 omega
theorem num_len {n:Int} (h0:1 ≤ n) (h:n ≤ 999):((lbB (.num n)).length:Int) = 1 + (if decide (n > 127) = true then 1 else 0):=by
 show ((Lg n).length:Int) = _
 by_cases c:n > 127
 ·rw [lg2 (by omega) (by omega),decide_eq_true c]; rfl
 ·rw [lg1 (by omega),decide_eq_false c]; rfl
theorem stp_len {s k:Nat} {l:Lb} (h:LbS s l):(stp1 k l).2 = ((lbB l).length:Int):=by
 rcases h with ⟨_,rfl⟩ | ⟨_,x,rfl,hx⟩ | ⟨_,n,rfl,h1,h2⟩
 ·rfl
 ·exact (key_len hx).symm
 ·exact (num_len h1 h2).symm
theorem es_len:∀ {ls:List Lb} {es:List IT},ls.length = es.length→es.length ≤ (Zu ls es).length
 | [],[],_ => Nat.zero_le _
 | [],_ :: _,h => by simp at h
 | _ :: _,[],_ => Nat.zero_le _
 | l :: ls,e :: es,h => by
  have:=es_len (ls:=ls) (es:=es) (by simpa using h)
  have:=byI_ne e
  simp only [Zu,List.length_cons,List.length_append]; omega
theorem sums:∀ {ls:List Lb} {es:List IT},ls.length = es.length→(es.map fun e => ((Zi e).length:Int)).sum + (lbs ls).sum = ((Zu ls es).length:Int)
 | [],[],_ => rfl
 | [],_ :: _,h => by simp at h
 | _ :: _,[],h => by simp at h
 | l :: ls,e :: es,h => by
  have ih:=sums (ls:=ls) (es:=es) (by simpa using h)
  unfold lbs at ih ⊢
  simp only [List.map_cons,List.sum_cons,Zu,List.length_append]
  omega
theorem map_take {α:Type} (g:α→Int) {l:List α} {k:Nat} {a:α} (h:l[k]? = some a):(l.map g).take (k + 1) = (l.map g).take k ++ [g a]:=by
 rw [List.take_succ,List.getElem?_map,h]
 rfl
theorem byI_mem_le:∀ {ls:List Lb} {es:List IT} {k:Nat} {e:IT},ls.length = es.length→es[k]? = some e→(Zi e).length ≤ (Zu ls es).length
 | [],[],k,e,_,h => by simp at h
 | [],_ :: _,k,e,h,_ => by simp at h
 | _ :: _,[],k,e,h,_ => by simp at h
 | l :: ls,d :: es,0,e,_,h => by cases h; simp only [Zu,List.length_append]; omega
 | l :: ls,d :: es,k + 1,e,hl,h => by
  have:=byI_mem_le (ls:=ls) (es:=es) (k:=k) (by simpa using hl) (by simpa using h)
  simp only [Zu,List.length_append]; omega
def spRest (K:W.Frag):Sp:=fun vs H Q _ => ∃ (v:V) (s:Nat) (ls:List Lb) (es:List IT),vs = [v]∧Yv K H (toD (.lst s ls es)) v∧GdI (.lst s ls es)∧Vx (.lst s ls es) ≤ 15∧(Zu ls es).length ≤ 1000000∧∀ H',Zb H H'→Q (.int ((Zu ls es).length:Int)) H'
section
variable {P:Program} {w:World} {K:W.Frag} {mg:Str→Option Value} {base:Heap} {f:Addr} {fd:FuncData}
theorem ok_law_rest (F:Uj K "_law_rest" "_law_rest" s_law_rest f fd) (m:Bn mg) (g_law_parts:Fn P w K mg base 1 "_law_parts" ["_law_item_here"] (spParts K)) (g_law_steps:Fn P w K mg base 1 "_law_steps" ["_law_item_here"] (spSteps K)) (g_law_packed:Fn P w K mg base 18 "_law_packed" ["_law_item_here"] (spLPack K (14 + 1))) :
  Yy P w K mg base Um 20 f fd ["_law_item_here"] (spRest K):=by
 refine F.ok sc_law_rest (fun vs H Q E h => ?_) (fun cdv A outer s H vs Q E hr h => ?_)
 ·obtain ⟨v,_,_,_,rfl,_⟩:=h
  rfl
 obtain ⟨v,st,ls,es,rfl,hd,gd,dp,ln,q⟩:=h
 obtain ⟨hs2,hl,gl,gs⟩:=id gd
 have le:=es_len hl
 have ll:ls.length ≤ 1000000:=by omega
 have hz:∀ n:Nat,n ≤ 1000000→n < sizeLine:=fun n h => by have:=sizeLine_eq; omega
 refine ⟨_,(@Zj _ _ _ _ _ (@ps_setCompI _ 1 N_law_rest (Zk s_law_rest) ["_law_part"] [none] _ _ _ _ _ _ _ _ _ _ _ _ _ sc_law_rest.nd rfl (by trivial) rfl (@pi_list _ _ _ _ (@Zw _ _ _ _ _ _ _ _ _ _ g_law_parts hr.m rfl (Zg (pv 0) Zz rfl) (by decide) rfl rfl)) ⟨rfl,rfl,by decide +kernel,by decide +kernel⟩ (fun _ _ _ => (@Z0 _ 0 _ _ (show List.Nodup (["_law_part"]:List Str) from by decide +kernel) rfl (Or.inl rfl) (by trivial))) (fun _ _ _ => Vf) (fun _ _ _ => (@Z5 _ _ _ _ _ _ _ _ _ Yg rfl m.len b_len (Zg (@Zw _ _ _ _ _ _ _ _ _ _ g_law_packed hr.m rfl (Zg (pv 0) Zz rfl) (by decide) rfl rfl) Zz rfl) (by decide) (by decide) rfl rfl)) (by trivial) (by trivial) (by trivial)) (@Zv _ _ _ (@Zd _ _ _ _ (@Zf _ _ _ _ _ _ _ _ Z1 (@Z5 _ _ _ _ _ _ _ _ _ (call_sumI rfl) rfl m.sum b_sum (Zg (pv 1) Zz rfl) (by decide) (by decide) rfl rfl) (@Z5 _ _ _ _ _ _ _ _ _ (call_sumI rfl) rfl m.sum b_sum (Zg (@Vw _ N_law_rest (Zk s_law_rest) ["_law_step"] [none] _ _ _ _ _ _ _ _ _ _ rfl (@pi_list _ _ _ _ (@Zw _ _ _ _ _ _ _ _ _ _ g_law_steps hr.m rfl (Zg (pv 0) Zz rfl) (by decide) rfl rfl)) ⟨rfl,rfl,by decide +kernel,by decide +kernel⟩ (fun _ _ _ => (@Z0 _ 0 _ _ (show List.Nodup (["_law_step"]:List Str) from by decide +kernel) rfl (Or.inl rfl) (by trivial))) (fun _ _ _ => Vf) (fun _ _ _ => (@Zr _ _ _ _ _ _ _ Zp (pv 0) Zx (fun _ _ => rfl))) (by trivial)) Zz rfl) (by decide) (by decide) rfl rfl))))), ?_⟩
 refine ⟨_,rfl,v,.lst st ls es,rfl,hd,gd,(show es.length ≤ 1000000 by omega),fun r us H1 s1 h1 a1 => ⟨r,rfl,⟨_,Ym.of h1⟩,fun Dd fp sx hD => ?_⟩⟩
 have ul:us.length = es.length:=by rw [← a1.length,Vq]; rfl
 refine comp_list (K:=K) (a:=r) (xs:=us) (fun k ys σ H5 => Zb H1 H5∧H5 Dd = some (.lst ys)∧(∃ o,σ = [o])∧ys = bv ((es.map fun e => ((Zi e).length:Int)).take k)) ⟨Zb.lay hD,Zq,⟨_,rfl⟩,rfl⟩ ?_ ?_ ?_
 ·rintro k ys σ H5 hk ⟨s5,h5,_⟩
  exact ⟨Ym.of (s5 _ _ h1),h5⟩
 ·rintro k x ys σ H5 hx ⟨s5,h5,⟨o,rfl⟩,ey⟩
  have hk:k < es.length:=by have:=(List.getElem?_eq_some_iff.mp hx).1; omega
  obtain ⟨e,he⟩:∃ e,es[k]? = some e:=⟨_,List.getElem?_eq_getElem hk⟩
  obtain ⟨x',hx',dx⟩:=a1.get (toDs_at he)
  rw [hx] at hx'
  cases hx'
  have me:=List.mem_of_getElem? he
  have dpe:=dpI_mem me
  have dp':dpIs es + 1 ≤ 15:=dp
  have lne:=byI_mem_le hl he
  refine nameT ⟨_,rfl,x,e,rfl,Yv.up s5.up _ _ (Z7 e) dx,V0.mp gs e me,(show Vx e ≤ 14 + 1 by omega),by omega,fun r2 H6 s6 h6 => ⟨r2,_,rfl,.inr h6,s6 _ _ h5, ?_,(s5.trans s6).put hD,Zq,⟨_,rfl⟩, ?_⟩⟩
  ·rw [ey,Yj,List.length_take,List.length_map]; exact hz _ (by omega)
  ·rw [ey,map_take _ he,bv_app,Yj]
   rfl
 rintro ys σ H5 ⟨s5,h5,_,ey⟩
 have e5:(es.map fun e => ((Zi e).length:Int)).take us.length = es.map fun e => ((Zi e).length:Int):=by
  apply List.take_of_length_le
  rw [List.length_map]; omega
 rw [e5] at ey
 rw [ey] at h5
 have s15:=s1.trans s5
 refine ⟨_,rfl,Dd,_,rfl,Ym.of h5, ?_⟩
 refine ⟨_,rfl,v,.lst st ls es,rfl,Yv.up s15.up _ _ (Z7 (.lst st ls es)) hd,gd,(show es.length ≤ 1000000 by omega),fun r3 us3 H6 s6 h6 a6 => ⟨r3,rfl,⟨_,Ym.of h6⟩,fun D2 fp2 sx2 hD2 => ?_⟩⟩
 have u3:us3.length = ls.length:=by rw [← a6.length,List.length_map]; exact stpL_len 0 ls
 refine comp_list (K:=K) (a:=r3) (xs:=us3) (fun k ys σ H7 => Zb H6 H7∧H7 D2 = some (.lst ys)∧(∃ o,σ = [o])∧ys = bv ((lbs ls).take k)) ⟨Zb.lay hD2,Zq,⟨_,rfl⟩,rfl⟩ ?_ ?_ ?_
 ·rintro k ys σ H7 hk ⟨s7,h7,_⟩
  exact ⟨Ym.of (s7 _ _ h6),h7⟩
 ·rintro k x ys σ H7 hx ⟨s7,h7,⟨o,rfl⟩,ey7⟩
  have hk:k < ls.length:=by have:=(List.getElem?_eq_some_iff.mp hx).1; omega
  obtain ⟨lb,hL⟩:∃ lb,ls[k]? = some lb:=⟨_,List.getElem?_eq_getElem hk⟩
  obtain ⟨x',hx',dx⟩:=a6.get (show ((stpL 0 ls).map sD)[k]? = some (sD (stp1 (0 + k) lb)) by rw [List.getElem?_map,stpL_get hL]; rfl)
  rw [hx] at hx'
  cases hx'
  obtain ⟨t,y,z,rfl,ht,_,hz2⟩:=isD2 dx
  obtain rfl:z = .int (stp1 (0 + k) lb).2:=hz2
  rw [stp_len (GdL.at hs2 gl _ (List.mem_of_getElem? hL))] at ht
  refine nameT ⟨_,rfl,t,_,_,_,rfl,rfl,s7.up _ _ ht,rfl,h7, ?_,s7.put hD2,Zq,⟨_,rfl⟩, ?_⟩
  ·rw [ey7,Yj,List.length_take]; exact hz _ (by omega)
  ·rw [ey7,lbs_at hL,bv_app]
   rfl
 rintro ys7 σ7 H7 ⟨s7,h7,_,ey7⟩
 have e7:(lbs ls).take us3.length = lbs ls:=by
  apply List.take_of_length_le
  unfold lbs
  rw [List.length_map]; omega
 rw [e7] at ey7
 rw [ey7] at h7
 refine ⟨D2,_,rfl,Ym.of h7,_,_,rfl,rfl, ?_⟩
 show Q (.int ((es.map fun e => ((Zi e).length:Int)).sum + (lbs ls).sum)) H7
 rw [sums hl]
 exact q H7 ((s15.trans s6).trans s7)
end
abbrev s_law_spans:Stmt:=top 61
abbrev N_law_spans:List Str:=["_law_item_here","_law_place","_law_path","_law_file","_law_found","_law_at","_law_part","_law_step","_law_many"]
theorem Yd:Zs N_law_spans ["_law_item_here","_law_place","_law_path"] (Zk s_law_spans):=by trivial
theorem for_zip {K:W.Frag} {l1 l2:Addr} {xs ys:List V} {g:TG} {tb:TS} {D:Ends} {σ:L2.St} {H:Hp} (Pv:Nat→L2.St→Hp→Prop) (h0:Pv 0 σ H) (hl:∀ i σ H,i ≤ min xs.length ys.length→Pv i σ H→Ym K H l1 xs∧Ym K H l2 ys)
  (hs:∀ i x y p σ H,xs[i]? = some x→ys[i]? = some y→Pv i σ H→H p = none→g (.ref p) σ (Z4 H p (.tup [x,y])) fun σ2 H2 => tb { D with nx:=Pv (i + 1),ct:=Pv (i + 1),bk:=D.nx } σ2 H2) (hd:∀ σ H,Pv (min xs.length ys.length) σ H→D.nx σ H) :
  ∃ W:Nat→Nat→L2.St→Hp→Prop,(∃ m,W 0 m σ H)∧∀ i m σ H,W i m σ H →
   ((Itz K l1 l2).stop i H∧D.nx σ H) ∨ ((Itz K l1 l2).go i H∧∃ N:L2.St→Hp→Prop,(∀ σ' H',N σ' H'→∃ m',m' < m∧W (i + 1) m' σ' H')∧∀ x H',(Itz K l1 l2).yld i H x H'→g x σ H' fun σ2 H2 => tb { D with nx:=N,ct:=N,bk:=D.nx } σ2 H2):=by
 refine ⟨fun i m σ H => m = min xs.length ys.length - i∧i ≤ min xs.length ys.length∧Pv i σ H,⟨min xs.length ys.length,by simp,Nat.zero_le _,h0⟩, ?_⟩
 rintro i m σ H ⟨rfl,hi,p⟩
 obtain ⟨q1,q2⟩:=hl i σ H hi p
 by_cases hlt:i < min xs.length ys.length
 ·have c1:i < xs.length:=by omega
  have c2:i < ys.length:=by omega
  refine .inr ⟨⟨xs,ys,xs[i],ys[i],q1,q2,by simp [c1],by simp [c2]⟩,Pv (i + 1),fun σ' H' p' => ⟨min xs.length ys.length - (i + 1),by omega,rfl,hlt,p'⟩,fun v H' y => ?_⟩
  obtain ⟨a,x,y',rfl,hn,rfl,y1,y2⟩:=y
  exact hs i x y' a σ H (y1 xs q1) (y2 ys q2) p hn
 ·have e:i = min xs.length ys.length:=by omega
  subst e
  exact .inl ⟨⟨xs,ys,q1,q2,by omega⟩,hd σ H p⟩
abbrev SpT:=List Stp × Nat × IT
def spD (t:SpT):D:=.tup [.tup (t.1.map stD),.int ((t.2.1:Nat):Int),.int ((t.2.1 + (Zi t.2.2).length:Nat):Int),toD t.2.2]
def spZ (f:Nat→List Stp→IT→List SpT) (path:List Stp):Nat→List IT→List (Stp × Int)→List SpT
 | b,e :: es,s :: ss => f (b + s.2.toNat) (path ++ [s.1]) e ++ spZ f path (b + s.2.toNat + (Zi e).length) es ss
 | _,_,_ => []
def at0 (p:Nat):IT→Nat
 | .arm n _ => p + 1 + (Lg n).length
 | .lst _ ls es => p + 1 + (Lg ((Zu ls es).length:Int)).length
 | _ => p
def spF:Nat→Nat→List Stp→IT→List SpT
 | 0,_,_,_ => []
 | n + 1,p,path,it => (path,p,it) :: spZ (spF n) path (at0 p it) (Yx it) (Y5 it)
theorem spZ_len {f:Nat→List Stp→IT→List SpT} {path:List Stp}:∀ (es:List IT) (ss:List (Stp × Int)) (b:Nat),(∀ e ∈ es,∀ b p,(f b p e).length ≤ (Zi e).length)→(spZ f path b es ss).length ≤ (es.map fun e => (Zi e).length).sum
 | [],_,_,_ => by simp [spZ]
 | _ :: _,[],_,_ => by simp [spZ]
 | e :: es,s :: ss,b,h => by
  have h1:=h e List.mem_cons_self (b + s.2.toNat) (path ++ [s.1])
  have h2:=spZ_len (f:=f) (path:=path) es ss (b + s.2.toNat + (Zi e).length) fun x m => h x (List.mem_cons_of_mem _ m)
  simp only [spZ,List.length_append,List.map_cons,List.sum_cons]; omega
theorem parts_len:∀ it:IT,GdI it→((Yx it).map fun e => (Zi e).length).sum + 1 ≤ (Zi it).length
 | .whole n,_ => byI_ne _
 | .text x,_ => byI_ne _
 | .arm n e,_ => by simp only [Yx,List.map_cons,List.map_nil,List.sum_cons,List.sum_nil,Zi,List.length_cons,List.length_append]; omega
 | .lst s ls es,g => by
  have h:∀ (ls:List Lb) (es:List IT),ls.length = es.length→(es.map fun e => (Zi e).length).sum ≤ (Zu ls es).length:=by
   intro ls
   induction ls with
   | nil => intro es h; cases es with
    | nil => exact Nat.le_refl _
    | cons e es => cases h
   | cons l ls ih =>
    intro es h
    cases es with
    | nil => cases h
    | cons e es =>
     have:=ih es (Nat.succ.inj h)
     simp only [List.map_cons,List.sum_cons,Zu,List.length_append]; omega
  have:=h ls es g.2.1
  simp only [Yx,Zi,List.length_cons,List.length_append]; omega
theorem parts_gd {it:IT} (g:GdI it):∀ e ∈ Yx it,GdI e:=by
 intro e m
 cases it with
 | whole n => cases m
 | text x => cases m
 | arm n e' => rw [List.mem_singleton.mp m]; exact g.2.2
 | lst s ls es => exact V0.mp g.2.2.2 e m
theorem parts_dp {it:IT}:∀ e ∈ Yx it,Vx e + 1 ≤ Vx it:=by
 intro e m
 cases it with
 | whole n => cases m
 | text x => cases m
 | arm n e' => rw [List.mem_singleton.mp m]; simp only [Vx]; omega
 | lst s ls es => have:=dpI_mem (es:=es) m; simp only [Vx]; omega
theorem spF_len:∀ (n:Nat) (it:IT),GdI it→∀ b p,(spF n b p it).length ≤ (Zi it).length
 | 0,_,_,_,_ => by simp [spF]
 | n + 1,it,g,b,p => by
  have h:=spZ_len (f:=spF n) (path:=p) (Yx it) (Y5 it) (at0 b it) fun e m b' p' => spF_len n e (parts_gd g e m) b' p'
  have:=parts_len it g
  simp only [spF,List.length_cons]; omega
theorem sp_noL (t:SpT):noL (spD t) = true:=by
 simp only [spD,noL,noLs,Bool.and_true,Bool.true_and,Bool.and_eq_true]
 exact ⟨noLs_all fun d m => by obtain ⟨s,_,rfl⟩:=List.mem_map.mp m; cases s <;> rfl,Z7 _⟩
theorem sps_noL (l:List SpT):noLs (l.map spD) = true:=noLs_all fun d m => by
 obtain ⟨p,_,rfl⟩:=List.mem_map.mp m
 exact sp_noL p
theorem st_noLs (l:List Stp):noL (.tup (l.map stD)) = true:=noLs_all fun d m => by obtain ⟨s,_,rfl⟩:=List.mem_map.mp m; cases s <;> rfl
theorem at1:∀ it:IT,∃ b:Int,(Zi it)[1]? = some b:=fun it => by
 have lg:∀ n:Int,∃ b r,Lg n = b :: r:=fun n => by
  cases e:Lg n with
  | nil => exact absurd e (Lf_ne 19 n)
  | cons b r => exact ⟨b,r,rfl⟩
 cases it with
 | whole n => obtain ⟨b,r,e⟩:=lg (V8 n); exact ⟨b,by simp only [Zi,e]; rfl⟩
 | text x => obtain ⟨b,r,e⟩:=lg (x.length:Int); exact ⟨b,by simp only [Zi,sgB,e]; rfl⟩
 | arm n e' => obtain ⟨b,r,e⟩:=lg n; exact ⟨b,by simp only [Zi,e]; rfl⟩
 | lst s ls es => obtain ⟨b,r,e⟩:=lg ((Zu ls es).length:Int); exact ⟨b,by simp only [Zi,e]; rfl⟩
theorem at1_arm {n:Int} {e:IT} {b:Int} (h1:1 ≤ n) (h2:n ≤ 999) (h:(Zi (.arm n e))[1]? = some b) (p:Nat):(p:Int) + 1 + (if decide (b > 127) = true then 1 else 0) + 1 = ((p + 1 + (Lg n).length:Nat):Int):=by
 by_cases c:n > 127
 ·have e2:Lg n = (n % 128 + 128) :: Lf 18 (n / 128):=by unfold Lg; exact Lf_big 18 (by omega)
  have hb:b = n % 128 + 128:=by simp only [Zi,e2] at h; simpa using h.symm
  rw [lg2 (by omega) (by omega),decide_eq_true (show b > 127 by omega)]
  simp only [if_true]; omega
 ·have e2:Lg n = [n]:=by unfold Lg; exact Ve 19 (by omega)
  have hb:b = n:=by simp only [Zi,e2] at h; simpa using h.symm
  rw [lg1 (by omega),decide_eq_false (show ¬ b > 127 by omega)]
  simp
theorem steps_nn {it:IT}:∀ s ∈ Y5 it,0 ≤ s.2:=by
 intro s m
 cases it with
 | whole n => cases m
 | text x => cases m
 | arm n e => rw [List.mem_singleton.mp m]; exact Int.le_refl _
 | lst t ls es =>
  have h:∀ (ls:List Lb) (k:Nat),∀ s ∈ stpL k ls,0 ≤ s.2:=by
   intro ls
   induction ls with
   | nil => intro k s m; cases m
   | cons l ls ih =>
    intro k s m
    rcases List.mem_cons.mp m with rfl | m
    ·cases l with
     | no => exact Int.le_refl _
     | key x => show 0 ≤ 1 + (x.length:Int); omega
     | num n => show 0 ≤ 1 + (if decide (n > 127) = true then (1:Int) else 0); split <;> omega
    ·exact ih _ s m
  exact h ls 0 s m
theorem spZ_succ {f:Nat→List Stp→IT→List SpT} {path:List Stp}:∀ {es:List IT} {ss:List (Stp × Int)} {b i:Nat} {e:IT} {s:Stp × Int},es[i]? = some e→ss[i]? = some s →
  ∃ b',spZ f path b (es.take i) (ss.take i) ++ spZ f path b' (es.drop i) (ss.drop i) = spZ f path b es ss∧spZ f path b (es.take (i + 1)) (ss.take (i + 1)) = spZ f path b (es.take i) (ss.take i) ++ f (b' + s.2.toNat) (path ++ [s.1]) e ∧
   b' = b + ((es.take i).map fun e => (Zi e).length).sum + ((ss.take i).map fun s => s.2.toNat).sum
 | [],_,_,_,_,_,h,_ => by simp at h
 | _ :: _,[],_,_,_,_,_,h => by simp at h
 | e0 :: es,s0 :: ss,b,0,e,s,h1,h2 => by
  simp at h1 h2
  subst h1 h2
  refine ⟨b,by simp [spZ],by simp [spZ],by simp⟩
 | e0 :: es,s0 :: ss,b,i + 1,e,s,h1,h2 => by
  obtain ⟨b',x1,x2,x3⟩:=spZ_succ (f:=f) (path:=path) (es:=es) (ss:=ss) (b:=b + s0.2.toNat + (Zi e0).length) (i:=i) (e:=e) (s:=s) (by simpa using h1) (by simpa using h2)
  refine ⟨b', ?_, ?_, ?_⟩
  ·simp only [List.take_succ_cons,List.drop_succ_cons,spZ,List.append_assoc]
   rw [x1]
  ·simp only [List.take_succ_cons,spZ,List.append_assoc]
   rw [x2]
  ·simp only [List.take_succ_cons,List.map_cons,List.sum_cons]
   omega
def spSpans (K:W.Frag):Nat→Sp
 | 0 => fun _ _ _ _ => False
 | n + 1 => fun vs H Q _ => ∃ (v vp:V) (it:IT) (p:Nat) (path:List Stp),vs = [v,.int (p:Int),vp]∧Yv K H (toD it) v∧GdI it∧Vx it ≤ n + 1∧Vx it ≤ 15∧(Zi it).length ≤ 1000000∧path.length + n ≤ 1000∧Yv K H (.tup (path.map stD)) vp ∧
  ∀ (r:Addr) (us:List V) (H':Hp),Zb H H'→H' r = some (.lst us)→Zn K H' ((spF (n + 1) p path it).map spD) us→Q (.ref r) H'
theorem item_hd {K:W.Frag} {H:Hp} {it:IT} {v:V} (h:Yv K H (toD it) v):∃ a xs,v = .ref a∧Z9 K H a (.str (itS it) :: xs):=by
 cases it with
 | whole n => obtain ⟨p,x,y,rfl,hp,rfl,_⟩:=isD2 h; exact ⟨p,_,rfl,hp⟩
 | text n => obtain ⟨p,x,y,rfl,hp,rfl,_⟩:=isD2 h; exact ⟨p,_,rfl,hp⟩
 | arm n e => obtain ⟨p,x,y,z,rfl,hp,rfl,_⟩:=isD3 h; exact ⟨p,_,rfl,hp⟩
 | lst s ls es => obtain ⟨p,x,y,rfl,hp,rfl,_⟩:=isD2 h; exact ⟨p,_,rfl,hp⟩
theorem in_lst {s:Nat} (h:s ≤ 2):inV (V.str (srt s)) [V.str "row",V.str "map",V.str "rec"] = true:=by
 match s,h with
 | 0,_ => decide +kernel
 | 1,_ => decide +kernel
 | 2,_ => decide +kernel
theorem in_no {it:IT} (h:¬ ∃ s ls es,it = .lst s ls es):inV (V.str (itS it)) [V.str "row",V.str "map",V.str "rec"] = false:=by
 cases it with
 | whole n => exact (by decide +kernel:inV (V.str "whole") [V.str "row",V.str "map",V.str "rec"] = false)
 | text n => exact (by decide +kernel:inV (V.str "text") [V.str "row",V.str "map",V.str "rec"] = false)
 | arm n e => exact (by decide +kernel:inV (V.str "arm") [V.str "row",V.str "map",V.str "rec"] = false)
 | lst s ls es => exact absurd ⟨s,ls,es,rfl⟩ h
theorem steps_len {it:IT} (g:GdI it):(Y5 it).length = (Yx it).length:=by
 cases it with
 | lst s ls es => rw [show Y5 (.lst s ls es) = stpL 0 ls from rfl,stpL_len]; exact g.2.1
 | _ => rfl
theorem take_sum {α:Type} (g:α→Nat) {l:List α} {i:Nat} {a:α} (h:l[i]? = some a):((l.take (i + 1)).map g).sum = ((l.take i).map g).sum + g a:=by
 rw [List.take_succ,h,List.map_append,List.sum_append]
 simp
def Lp (K:W.Frag) (n:Nat) (Q:VK):L2.St→Hp→Prop:=fun σ H =>
 tSeq (tFor (iZip K (Vd (tCall (spParts K) [] E0 (Vd (tVar 0) tNil)) (Vd (tCall (spSteps K) [] E0 (Vd (tVar 0) tNil)) tNil))) (gTup K 2 (gCons (gName 6) (gCons (gTup K 2 (gCons (gName 7) (gCons (gName 8) gNil))) gNil)))
  (tSeq (tAsg (tOp (rI0 fun i j => V.int (i + j)) (tVar 5) (tVar 8)) (gName 5)) (tSeq (tAsg (tOp rCat (tVar 4) (tCall (spSpans K n) [] E0 (Vd (tVar 6) (Vd (tVar 5) (Vd (tOp (rCatG K) (tVar 2) (tTup (Vd (tVar 7) tNil))) tNil))))) (gName 4))
   (tAsg (tOp (rI0 fun i j => V.int (i + j)) (tVar 5) (tCB (fun xs H Q => ∃ p ys,xs = [V.ref p]∧(Ym K H p ys ∨ Z9 K H p ys)∧Q (V.int (ys.length:Int)) H) (Vd (tCall (spLPack K (14 + 1)) [] E0 (Vd (tVar 6) tNil)) tNil))) (gName 5)))))
  (tRet (tVar 4)) { nx:=fun _ H' => Q .non H',rt:=Q } σ H
section
variable {P:Program} {w:World} {K:W.Frag} {mg:Str→Option Value} {base:Heap} {f:Addr} {fd:FuncData}
theorem ok_law_spans (F:Uj K "_law_spans" "_law_spans" s_law_spans f fd) (m:Bn mg) (bd:Binds K fd ["_law_item_here","_law_place","_law_path"] []) (mf:mg "_law_spans" = some (.ref f)) (g_law_packed:Fn P w K mg base 18 "_law_packed" ["_law_item_here"] (spLPack K (14 + 1))) (g_law_rest:Fn P w K mg base 20 "_law_rest" ["_law_item_here"] (spRest K))
  (g_law_parts:Fn P w K mg base 1 "_law_parts" ["_law_item_here"] (spParts K)) (g_law_steps:Fn P w K mg base 1 "_law_steps" ["_law_item_here"] (spSteps K)) :
  ∀ n,Yy P w K mg base Um (n + 21) f fd ["_law_item_here","_law_place","_law_path"] (spSpans K n)
 | 0 => ⟨fun vs H Q E h => h.elim,fun A outer s H args us vs Q E _ _ _ _ h => h.elim⟩
 | n + 1 => by
  have g_law_spans:Fn P w K mg base (n + 21) "_law_spans" ["_law_item_here","_law_place","_law_path"] (spSpans K n):=⟨f,fd,ok_law_spans F m bd mf g_law_packed g_law_rest g_law_parts g_law_steps n,bd,F.kp,mf⟩
  refine F.ok Yd (fun vs H Q E h => ?_) (fun cdv A outer s H vs Q E hr h => ?_)
  ·obtain ⟨v,vp,it,p,path,rfl,_⟩:=h
   rfl
  obtain ⟨v,vp,it,p,path,rfl,hd,gd,dp,d10,ln,pl,hvp,q⟩:=h
  have pln:=parts_len it gd
  have pgd:=parts_gd gd
  have pdp:=parts_dp (it:=it)
  have snn:=steps_nn (it:=it)
  obtain ⟨b1,hb1⟩:=at1 it
  have hz:∀ n:Nat,n ≤ 2000000→n < sizeLine:=fun n h => by have:=sizeLine_eq; omega
  refine ⟨_,(@Zj _ _ _ _ _ (@Zy _ 3 _ _ _ _ _ Yd.nd rfl (by trivial) (@Zw _ _ _ _ _ _ _ _ _ _ g_law_packed hr.m rfl (Zg (pv 0) Zz rfl) (by decide) rfl rfl) rfl (by trivial)) (@Zj _ _ _ _ _ (@Zy _ 4 _ _ _ _ _ Yd.nd rfl (by trivial) (@Y2 _ _ _ _ (Zg (@Z3 _ _ _ _ _ (Zg (pv 2) (Zg (pv 1) (Zg (@Zf _ _ _ _ _ _ _ _ Z1 (pv 1) (@Z5 _ _ _ _ _ _ _ _ _ Yg rfl m.len b_len (Zg (pv 3) Zz rfl) (by decide) (by decide) rfl rfl)) (Zg (pv 0) Zz rfl) rfl) rfl) rfl)) Zz rfl)) rfl (by trivial)) (@Zj _ _ _ _ _ (@Zy _ 5 _ _ _ _ _ Yd.nd rfl (by trivial) (@Zf _ _ _ _ _ _ _ _ Z1 (@Zf _ _ _ _ _ _ _ _ Z1 (@Zf _ _ _ _ _ _ _ _ Z1 (pv 1) Zx) (@Yt _ _ _ _ _ _ _ _ _ call_int1 rfl m.int b_int (Zg (@Vb _ _ _ _ _ _ _ _ op_gt (@Zr _ _ _ _ _ _ _ Zp (pv 3) Zx (fun _ _ => rfl)) Zx (Zt _)) Zz rfl) (by trivial) (by trivial) (by trivial) (by trivial))) Zx) rfl (by trivial)) (@Zj _ _ _ _ _ (@Z8 _ _ _ _ _ _ _ _ (@Zm _ _ _ _ _ _ _ _ op_in_seq (@Zr _ _ _ _ _ _ _ Zp (pv 0) Zx (fun _ _ => rfl)) (@Z3 _ _ _ _ _ (Zg Zc (Zg Zc (Zg Zc Zz rfl) rfl) rfl)) rfl) (@Zv _ _ _ (@Zy _ 5 _ _ _ _ _ Yd.nd rfl (by trivial) (@Zf _ _ _ _ _ _ _ _ Ug (@Zf _ _ _ _ _ _ _ _ Z1 (pv 1) (@Z5 _ _ _ _ _ _ _ _ _ Yg rfl m.len b_len (Zg (pv 3) Zz rfl) (by decide) (by decide) rfl rfl)) (@Zw _ _ _ _ _ _ _ _ _ _ g_law_rest hr.m rfl (Zg (pv 0) Zz rfl) (by decide) rfl rfl)) rfl (by trivial))) Za) (@Zj _ _ _ _ _ (@ps_for _ _ _ _ _ _ _ _ PassesOwn.never rfl (@pi_zip _ _ _ _ _ _ _ _ _ rfl m.zip (Zg (@Zw _ _ _ _ _ _ _ _ _ _ g_law_parts hr.m rfl (Zg (pv 0) Zz rfl) (by decide) rfl rfl) (Zg (@Zw _ _ _ _ _ _ _ _ _ _ g_law_steps hr.m rfl (Zg (pv 0) Zz rfl) (by decide) rfl rfl) Zz rfl) rfl) rfl rfl) (@pg_tup _ _ _ _ _ _ rfl (@Vj _ _ _ _ _ (@Z0 _ 6 _ _ Yd.nd rfl (Or.inl rfl) (by trivial)) (@Vj _ _ _ _ _ (@pg_tup _ _ _ _ _ _ rfl (@Vj _ _ _ _ _ (@Z0 _ 7 _ _ Yd.nd rfl (Or.inl rfl) (by trivial)) (@Vj _ _ _ _ _ (@Z0 _ 8 _ _ Yd.nd rfl (Or.inl rfl) (by trivial)) pgs_nil (by trivial)) (by trivial)) (by trivial) (by trivial)) pgs_nil (by trivial)) (by trivial)) (by trivial) (by trivial)) (@Zj _ _ _ _ _ (@Zy _ 5 _ _ _ _ _ Yd.nd rfl (by trivial) (@Zf _ _ _ _ _ _ _ _ Z1 (pv 5) (pv 8)) rfl (by trivial)) (@Zj _ _ _ _ _ (@Zy _ 4 _ _ _ _ _ Yd.nd rfl (by trivial) (@Zf _ _ _ _ _ _ _ _ op_cat (pv 4) (@Zw _ _ _ _ _ _ _ _ _ _ g_law_spans hr.m rfl (Zg (pv 6) (Zg (pv 5) (Zg (@Zf _ _ _ _ _ _ _ _ Uf (pv 2) (@Z3 _ _ _ _ _ (Zg (pv 7) Zz rfl))) Zz rfl) rfl) rfl) (by decide) rfl rfl)) rfl (by trivial)) (@Zv _ _ _ (@Zy _ 5 _ _ _ _ _ Yd.nd rfl (by trivial) (@Zf _ _ _ _ _ _ _ _ Z1 (pv 5) (@Z5 _ _ _ _ _ _ _ _ _ Yg rfl m.len b_len (Zg (@Zw _ _ _ _ _ _ _ _ _ _ g_law_packed hr.m rfl (Zg (pv 6) Zz rfl) (by decide) rfl rfl) Zz rfl) (by decide) (by decide) rfl rfl)) rfl (by trivial))))) (by trivial)) (@Zv _ _ _ (@Zd _ _ _ _ (pv 4)))))))), ?_⟩
  refine ⟨_,rfl,v,it,rfl,hd,gd,(show Vx it ≤ 14 + 1 by omega),by omega,fun r2 H2 s2 h2 => ?_⟩
  have hd2:=Yv.up s2.up _ _ (Z7 it) hd
  have hvp2:=Yv.up s2.up _ _ (st_noLs path) hvp
  obtain ⟨ia,ixs,rfl,hia⟩:=item_hd hd2
  refine ⟨_,rfl,_,rfl,_,rfl,_,rfl,r2,_,rfl,.inr h2,_,_,rfl,rfl,_,rfl,(sz 4),fun t3 h3 => ⟨(sz 1),fun l3 hl3 => ?_⟩⟩
  have s3:=(Zb.lay (o:=.tup [vp,.int (p:Int),.int ((p:Int) + ((bv (Zi it)).length:Int)),.ref ia]) h3).trans (Zb.lay (o:=.lst [.ref t3]) hl3)
  have n3:t3 ≠ l3:=Zl Zq hl3
  refine ⟨_,rfl,_,_,rfl,rfl,_,rfl,r2,_,_,_,rfl,rfl,s3.up _ _ h2,L2.atI_nat (j:=1) (bvAt hb1),_,_,rfl,rfl,.inr ⟨_,rfl,_,_,rfl,rfl,_,_,rfl,rfl, ?_⟩⟩
  have hd3:=Yv.up s3.up _ _ (Z7 it) hd2
  have it0:Z9 K (Z4 (Z4 H2 t3 (.tup [vp,.int (p:Int),.int ((p:Int) + ((bv (Zi it)).length:Int)),.ref ia])) l3 (.lst [.ref t3])) t3 [vp,.int (p:Int),.int ((p:Int) + ((bv (Zi it)).length:Int)),.ref ia]:=Z9.of (by rw [Zh n3]; exact Zq)
  have li0:(Z4 (Z4 H2 t3 (.tup [vp,.int (p:Int),.int ((p:Int) + ((bv (Zi it)).length:Int)),.ref ia])) l3 (.lst [.ref t3])) l3 = some (.lst [.ref t3]):=Zq
  have hvp3:=Yv.up s3.up _ _ (st_noLs path) hvp2
  have s03:=s2.trans s3
  have h23:=s3.up (K:=K) _ _ h2
  have hia3:=s3.up (K:=K) _ _ hia
  show tSeq _ _ _ _ (Z4 (Z4 H2 t3 (.tup [vp,.int (p:Int),.int ((p:Int) + ((bv (Zi it)).length:Int)),.ref ia])) l3 (.lst [.ref t3]))
  generalize (Z4 (Z4 H2 t3 (.tup [vp,.int (p:Int),.int ((p:Int) + ((bv (Zi it)).length:Int)),.ref ia])) l3 (.lst [.ref t3])) = H3 at hd3 it0 li0 hvp3 s03 h23 hia3
  refine ⟨_,rfl,ia,_,_,_,rfl,rfl,hia3,(show atI (V.str (itS it) :: ixs) ((0:Nat):Int) = _ from L2.atI_nat (j:=0) rfl),(sz 3),fun t4 h4 => ⟨t4,_,rfl,.inr (Z9.of Zq),rfl,rfl,_,rfl, ?_⟩⟩
  have s4:=Zb.lay (o:=.tup [.str "row",.str "map",.str "rec"]) h4
  have s04:=s03.trans s4
  have bl:(bv (Zi it)).length = (Zi it).length:=Yj _
  have pl':(Yx it).length ≤ 1000000:=by
   have:∀ l:List IT,l.length ≤ (l.map fun e => (Zi e).length).sum:=by
    intro l
    induction l with
    | nil => exact Nat.le_refl _
    | cons e l ih => have:=byI_ne e; simp only [List.length_cons,List.map_cons,List.sum_cons]; omega
   have:=this (Yx it)
   omega
  have sl:=steps_len gd
  obtain ⟨pa,pxs,rfl,hpa,apx⟩:=hvp
  have pxl:pxs.length = path.length:=by rw [← apx.length,List.length_map]
  have loop:∀ (z:Int) (H5:Hp),Zb H3 H5→(Yx it = [] ∨ z = ((at0 p it:Nat):Int))→Lp K n (fun v H => Q v H) [some (.ref ia),some (.int (p:Int)),some (.ref pa),some (.ref r2),some (.ref l3),some (.int z),none,none,none] H5:=by
   intro z H5 s35 hzz
   have s05:=s03.trans s35
   have nI:=Z7 it
   refine ⟨_,rfl,.ref ia,it,rfl,Yv.up s35.up _ _ nI hd3,gd,pl',fun rp us H6 s6 h6 a6 => ?_⟩
   refine ⟨_,rfl,.ref ia,it,rfl,Yv.up (s35.trans s6).up _ _ nI hd3,gd,pl',fun rs ss H7 s7 h7 a7 => ?_⟩
   have s37:=s35.trans (s6.trans s7)
   have ul:us.length = (Yx it).length:=by rw [← a6.length,Vq]
   have ssl:ss.length = (Yx it).length:=by rw [← a7.length,List.length_map,sl]
   have a67:Zn K H7 (toDs (Yx it)) us:=Zn.up s7.up _ _ (by have:=toDs_take (Yx it) (Yx it).length; rwa [← Vq,List.take_length] at this) a6
   refine ⟨rp,rs,rfl,⟨_,Ym.of (s7 _ _ h6)⟩,⟨_,Ym.of h7⟩,for_zip (xs:=us) (ys:=ss) (fun i σ H8 => Zb H7 H8∧∃ (l:Addr) (ws:List V) (zz:Int) (o6 o7 o8:Option V),σ = [some (.ref ia),some (.int (p:Int)),some (.ref pa),some (.ref r2),some (.ref l),some (.int zz),o6,o7,o8]∧H8 l = some (.lst ws) ∧
     Zn K H8 (((path,p,it) :: spZ (spF n) path (at0 p it) ((Yx it).take i) ((Y5 it).take i)).map spD) ws∧(Yx it = [] ∨ zz = ((at0 p it + (((Yx it).take i).map fun e => (Zi e).length).sum + (((Y5 it).take i).map fun s => s.2.toNat).sum:Nat):Int))) ?_ ?_ ?_ ?_⟩
   ·refine ⟨Zb.refl _,l3,_,z,_,_,_,rfl,s37 _ _ li0, ?_, ?_⟩
    ·simp only [List.take_zero,spZ,List.map_cons,List.map_nil]
     refine Zn.one ⟨t3,_,rfl,s37.up _ _ it0, ?_⟩
     refine ⟨_,_,rfl,Yv.up s37.up _ _ (st_noLs path) hvp3,_,_,rfl,rfl,_,_,rfl, ?_,_,_,rfl,Yv.up s37.up _ _ nI hd3,rfl⟩
     show V.int ((p:Int) + ((bv (Zi it)).length:Int)) = V.int ((p + (Zi it).length:Nat):Int)
     rw [bl,Int.natCast_add]
    ·simpa using hzz
   ·rintro i σ H8 hi ⟨s8,_⟩
    exact ⟨Ym.of (s8 _ _ (s7 _ _ h6)),Ym.of (s8 _ _ h7)⟩
   ·rintro i x y pz σ H8 hx hy ⟨s8,l,ws,zz,o6,o7,o8,rfl,hl,aw,ez⟩ hpz
    have il:i < (Yx it).length:=by have:=(List.getElem?_eq_some_iff.mp hx).1; omega
    obtain ⟨e,he⟩:∃ e,(Yx it)[i]? = some e:=⟨_,List.getElem?_eq_getElem il⟩
    obtain ⟨sp,hsp⟩:∃ sp,(Y5 it)[i]? = some sp:=⟨_,List.getElem?_eq_getElem (by rw [sl]; exact il)⟩
    have me:=List.mem_of_getElem? he
    have ms:=snn sp (List.mem_of_getElem? hsp)
    have ne:Yx it ≠ []:=fun z => by rw [z] at he; simp at he
    replace ez:=ez.resolve_left ne
    obtain ⟨x',hx',dx⟩:=a67.get (toDs_at he)
    rw [hx] at hx'
    cases hx'
    obtain ⟨y',hy',dy⟩:=a7.get (show ((Y5 it).map sD)[i]? = some (sD sp) by rw [List.getElem?_map,hsp]; rfl)
    rw [hy] at hy'
    cases hy'
    obtain ⟨ty,y1,y2,rfl,hty,d1,d2⟩:=isD2 (show Yv K H7 (.tup [stD sp.1,.int sp.2]) y from dy)
    obtain rfl:y2 = .int sp.2:=d2
    have s9:Zb H8 (Z4 H8 pz (.tup [x,.ref ty])):=Zb.lay hpz
    have s79:=s8.trans s9
    refine ⟨pz,_,rfl,Z9.of Zq,rfl,_,_,rfl,_,_,rfl,ty,_,rfl,s79.up _ _ hty,rfl,_,_,rfl,_,_,rfl,rfl,rfl, ?_⟩
    obtain ⟨bb,_,x2,x3⟩:=spZ_succ (f:=spF n) (path:=path) (b:=at0 p it) he hsp
    have ebb:zz + sp.2 = ((bb + sp.2.toNat:Nat):Int):=by rw [ez,x3]; omega
    have dpe:=pdp e me
    have e1:1 ≤ Vx e:=by cases e <;> simp only [Vx] <;> omega
    have lne:(Zi e).length ≤ 1000000:=by
     have h:∀ l:List IT,e ∈ l→(Zi e).length ≤ (l.map fun e => (Zi e).length).sum:=by
      intro l
      induction l with
      | nil => intro m; cases m
      | cons a l ih =>
       intro m
       simp only [List.map_cons,List.sum_cons]
       rcases List.mem_cons.mp m with rfl | m
       ·omega
       ·have:=ih m; omega
     have:=h _ me
     omega
    have hpa9:Z9 K (Z4 H8 pz (.tup [x,.ref ty])) pa pxs:=(s03.trans (s37.trans s79)).up _ _ hpa
    have apx9:Zn K (Z4 H8 pz (.tup [x,.ref ty])) (path.map stD) pxs:=Zn.up (s03.trans (s37.trans s79)).up _ _ (st_noLs path) apx
    have dst:noL (stD sp.1) = true:=by cases sp.1 <;> rfl
    refine ⟨_,rfl,_,rfl,_,_,rfl,rfl, ?_⟩
    refine ⟨_,rfl,_,rfl,_,rfl,_,rfl,_,rfl,(sz 1),fun t9 h9 => ⟨pa,t9,pxs,_,rfl,rfl,Yk h9 _ _ hpa9,Z9.of Zq,(by rw [pxl]; exact Nat.le_of_lt (hz _ (by show path.length + 1 ≤ _; omega))),fun p10 H10 s10 h10 => ?_⟩⟩
    have s910:Zb (Z4 H8 pz (.tup [x,.ref ty])) H10:=(Zb.lay h9).trans s10
    have s710:=s79.trans s910
    obtain ⟨n',rfl⟩:∃ n',n = n' + 1:=⟨n - 1,by omega⟩
    refine ⟨x,.ref p10,e,bb + sp.2.toNat,path ++ [sp.1],(by show [x,V.int (zz + sp.2),V.ref p10] = _; rw [ebb]),Yv.up s710.up _ _ (Z7 e) dx,pgd e me,by omega,by omega,lne,(by rw [List.length_append,List.length_singleton]; omega),⟨p10,_,rfl,h10, ?_⟩,fun r11 us11 H11 s11 h11 a11 => ?_⟩
    ·rw [List.map_append]
     exact Zn.append (Zn.up s910.up _ _ (st_noLs path) apx9) (Zn.one (Yv.up s710.up _ _ dst d1))
    have s811:=s9.trans (s910.trans s11)
    have wl:=aw.length
    have ul11:=a11.length
    rw [List.length_map] at wl ul11
    have b1:=spF_len (n' + 1) e (pgd e me) (bb + sp.2.toNat) (path ++ [sp.1])
    have b2:=spZ_len (f:=spF (n' + 1)) (path:=path) ((Yx it).take i) ((Y5 it).take i) (at0 p it) fun e' m' b' p' => spF_len _ e' (pgd e' (List.mem_of_mem_take m')) b' p'
    have b3:(((Yx it).take i).map fun e => (Zi e).length).sum ≤ ((Yx it).map fun e => (Zi e).length).sum:=by
     have:∀ (l:List IT) (i:Nat),((l.take i).map fun e => (Zi e).length).sum ≤ (l.map fun e => (Zi e).length).sum:=by
      intro l
      induction l with
      | nil => intro i; simp
      | cons a l ih =>
       intro i
       cases i with
       | zero => simp
       | succ i => have:=ih i; simp only [List.take_succ_cons,List.map_cons,List.sum_cons]; omega
     exact this _ _
    rw [List.length_cons] at wl
    refine ⟨l,r11,ws,us11,rfl,rfl,s811 _ _ hl,h11,Nat.le_of_lt (hz _ (by omega)),fun p12 h12 => ?_⟩
    have s12:=s811.trans (Zb.lay (o:=.lst (ws ++ us11)) h12)
    refine ⟨_,rfl,_,rfl,x,e,rfl,Yv.up (s8.trans s12).up _ _ (Z7 e) dx,pgd e me,(show Vx e ≤ 14 + 1 by omega),by omega,fun r13 H13 s13 h13 => ⟨r13,_,rfl,.inr h13,_,_,rfl,rfl, ?_⟩⟩
    refine ⟨s8.trans (s12.trans s13),p12,ws ++ us11,_,_,_,_,rfl,s13 _ _ Zq, ?_,.inr ?_⟩
    ·rw [x2,List.map_cons,List.map_append]
     refine Zn.append (ds:=spD (path,p,it) :: (spZ (spF (n' + 1)) path (at0 p it) ((Yx it).take i) ((Y5 it).take i)).map spD) ?_ ?_
     ·exact Zn.up (s12.trans s13).up _ _ (sps_noL ((path,p,it) :: spZ (spF (n' + 1)) path (at0 p it) ((Yx it).take i) ((Y5 it).take i))) aw
     ·exact Zn.up ((Yk h12).trans s13.up) _ _ (sps_noL _) a11
    ·rw [take_sum _ he,take_sum _ hsp,Yj,ez]
     omega
   ·rintro σ H8 ⟨s8,l,ws,zz,o6,o7,o8,rfl,hl,aw,_⟩
    rw [ul,ssl,Nat.min_self,List.take_length, ← sl,List.take_length] at aw
    exact ⟨_,rfl,q l ws H8 (s03.trans (s37.trans s8)) hl aw⟩
  by_cases c:∃ s ls es,it = .lst s ls es
  ·obtain ⟨st,ls,es,e⟩:=c
   have gd':=gd
   rw [e] at gd'
   have l':(Zi it).length = (Lg ((Zu ls es).length:Int)).length + (Zu ls es).length + 1:=by rw [e]; simp only [Zi,List.length_cons,List.length_append]
   refine Yp (by rw [e]; exact in_lst gd'.1) ⟨_,rfl,_,rfl,r2,_,rfl,.inr (s4.up _ _ h23),_,_,rfl,rfl,_,rfl,.ref ia,st,ls,es,rfl,e ▸ Yv.up s4.up _ _ (Z7 it) hd3,gd',e ▸ d10,by omega,fun H5 s5 => ⟨_,_,rfl,rfl, ?_⟩⟩
   exact loop _ H5 (s4.trans s5) (.inr (by rw [e]; rw [e] at l' bl; simp only [at0]; omega))
  ·refine Yq (in_no c) ?_
   refine loop _ _ s4 ?_
   cases it with
   | whole n => exact .inl rfl
   | text n => exact .inl rfl
   | arm n e => exact .inr (at1_arm gd.1 gd.2.1 hb1 p)
   | lst s ls es => exact absurd ⟨s,ls,es,rfl⟩ c
end
theorem eq_int {i j:Int}:eqD (.int i) (.int j) = decide (i = j):=by
 by_cases e:i = j
 ·subst e; rw [eqD_refl]; simp
 ·rw [eqD_flat (x:=.int i) (y:=.int j) rfl rfl,decide_eq_false e]
  simp [eqV,e]
theorem eqDs_ints:∀ {a b:List Int},eqDs (a.map D.int) (b.map D.int) = true→a = b
 | [],[],_ => rfl
 | [],_ :: _,h => by simp [eqDs] at h
 | _ :: _,[],h => by simp [eqDs] at h
 | x :: a,y :: b,h => by
  simp only [List.map_cons,eqDs,Bool.and_eq_true] at h
  rw [eq_int] at h
  rw [of_decide_eq_true h.1,eqDs_ints h.2]
theorem eq_bD {a b:List Int} (h:eqD (bD a) (bD b) = true):a = b:=eqDs_ints (by simpa only [bD,eqD] using h)
theorem map_inj:∀ {a b:List Nat},a.map (fun c:Nat => (c:Int)) = b.map (fun c:Nat => (c:Int))→a = b
 | [],[],_ => rfl
 | [],_ :: _,h => by simp at h
 | _ :: _,[],h => by simp at h
 | x :: a,y :: b,h => by
  simp only [List.map_cons,List.cons.injEq] at h
  rw [map_inj h.2,show x = y by omega]
theorem codes_inj {x y:Str} (h:Vo x = Vo y):x = y:=by
 have h2:x.cps.toList = y.cps.toList:=map_inj h
 cases x; cases y
 simp only [Str.mk.injEq]
 exact Array.toList_inj.mp h2
theorem trip_find:∀ {ls:List Lb} {es:List IT} {k b i:Nat} {l:Lb} {e:IT},ls[i]? = some l→es[i]? = some e→(∀ j l',j < i→ls[j]? = some l'→eqD (labD (k + j) l') (labD (k + i) l) = false) →
  (V2 k b ls es).find? (fun t => eqD t.1 (labD (k + i) l)) = some (labD (k + i) l,b + ((es.take i).map fun e => (Zi e).length).sum + ((ls.take i).map fun l => (lbB l).length).sum + (lbB l).length,e)
 | [],_,_,_,_,_,_,h,_,_ => by simp at h
 | _ :: _,[],_,_,_,_,_,_,h,_ => by simp at h
 | l0 :: ls,e0 :: es,k,b,0,l,e,h1,h2,_ => by
  simp at h1 h2
  subst h1 h2
  simp only [V2,Nat.add_zero,List.find?_cons,eqD_refl]
  simp
 | l0 :: ls,e0 :: es,k,b,i + 1,l,e,h1,h2,h3 => by
  have ih:=trip_find (ls:=ls) (es:=es) (k:=k + 1) (b:=b + (lbB l0).length + (Zi e0).length) (i:=i) (l:=l) (e:=e) (by simpa using h1) (by simpa using h2) fun j l' hj hl' => by
   have:=h3 (j + 1) l' (by omega) (by simpa using hl')
   rw [show k + 1 + j = k + (j + 1) by omega,show k + 1 + i = k + (i + 1) by omega]
   exact this
  have h0:=h3 0 l0 (by omega) rfl
  rw [show k + 1 + i = k + (i + 1) by omega] at ih
  simp only [V2,List.find?_cons]
  rw [show k + 0 = k from rfl] at h0
  rw [h0]
  simp only
  rw [ih]
  simp only [List.take_succ_cons,List.map_cons,List.sum_cons]
  rw [show b + (lbB l0).length + (Zi e0).length + ((es.take i).map fun e => (Zi e).length).sum + ((ls.take i).map fun l => (lbB l).length).sum + (lbB l).length = b + ((Zi e0).length + ((es.take i).map fun e => (Zi e).length).sum) + ((lbB l0).length + ((ls.take i).map fun l => (lbB l).length).sum) + (lbB l).length by omega]
theorem lab_ne {s k i j:Nat} {ls:List Lb} {l l':Lb} (hs:s ≤ 2) (g:GdL s ls) (hj:j < i) (h1:ls[j]? = some l') (h2:ls[i]? = some l):eqD (labD (k + j) l') (labD (k + i) l) = false:=by
 refine Bool.eq_false_iff.mpr fun h => ?_
 match s,hs,g with
 | 0,_,g =>
  rw [g l (List.mem_of_getElem? h2),g l' (List.mem_of_getElem? h1)] at h
  simp only [labD] at h
  rw [eq_int] at h
  have:=of_decide_eq_true h
  omega
 | 1,_,⟨ks,e,_,ad⟩ =>
  have pw:=adj_pair (r:=ltS) (fun _ _ _ h1 h2 => ltS_trans h1 h2) ad
  rw [e,List.getElem?_map] at h1 h2
  obtain ⟨x,hx,rfl⟩:=Option.map_eq_some_iff.mp h1
  obtain ⟨y,hy,rfl⟩:=Option.map_eq_some_iff.mp h2
  have:=codes_inj (eq_bD h)
  subst this
  obtain ⟨a1,b1⟩:=List.getElem?_eq_some_iff.mp hx
  obtain ⟨a2,b2⟩:=List.getElem?_eq_some_iff.mp hy
  have:=List.pairwise_iff_getElem.mp pw j i a1 a2 hj
  rw [b1,b2] at this
  exact absurd this (List.lt_irrefl _)
 | 2,_,⟨ks,e,_,pw⟩ =>
  rw [e,List.getElem?_map] at h1 h2
  obtain ⟨x,hx,rfl⟩:=Option.map_eq_some_iff.mp h1
  obtain ⟨y,hy,rfl⟩:=Option.map_eq_some_iff.mp h2
  simp only [labD] at h
  rw [eq_int] at h
  have:=of_decide_eq_true h
  subst this
  obtain ⟨a1,b1⟩:=List.getElem?_eq_some_iff.mp hx
  obtain ⟨a2,b2⟩:=List.getElem?_eq_some_iff.mp hy
  have:=List.pairwise_iff_getElem.mp pw j i a1 a2 hj
  rw [b1,b2] at this
  exact absurd this (Int.lt_irrefl _)
theorem want_stp (k:Nat) (l:Lb):want (stp1 k l).1 = labD k l:=by cases l <;> rfl
theorem sort_stp {s k:Nat} {l:Lb} (h:LbS s l):srt s = stS (stp1 k l).1:=by
 rcases h with ⟨rfl,rfl⟩ | ⟨rfl,x,rfl,_⟩ | ⟨rfl,n,rfl,_⟩ <;> rfl
theorem step_at {it e:IT} {i p:Nat} {s:Stp × Int} (g:GdI it) (h1:(Yx it)[i]? = some e) (h2:(Y5 it)[i]? = some s) :
  Vk p it s.1 = some (at0 p it + (((Yx it).take i).map fun e => (Zi e).length).sum + (((Y5 it).take i).map fun s => s.2.toNat).sum + s.2.toNat,e):=by
 cases it with
 | whole n => simp [Yx] at h1
 | text n => simp [Yx] at h1
 | arm n e' =>
  have i0:i = 0:=by
   have:=(List.getElem?_eq_some_iff.mp h1).1
   simpa [Yx] using this
  subst i0
  simp [Yx] at h1
  simp [Y5] at h2
  subst h1 h2
  unfold Vk
  rw [if_pos (show itS (.arm n e') = stS (Stp.arm n) from rfl)]
  simp only [tripI,List.find?_cons,want,eqD_refl,Option.map_some,at0]
  simp
 | lst st ls es =>
  obtain ⟨hs2,hl,gl,gs⟩:=g
  have hE:es[i]? = some e:=h1
  have il:i < ls.length:=by rw [hl]; exact (List.getElem?_eq_some_iff.mp hE).1
  obtain ⟨l,hL⟩:∃ l,ls[i]? = some l:=⟨_,List.getElem?_eq_getElem il⟩
  have hs:s = stp1 (0 + i) l:=by
   have:=stpL_get (k:=0) hL
   rw [show (Y5 (.lst st ls es)) = stpL 0 ls from rfl,this] at h2
   exact (Option.some.inj h2).symm
  subst hs
  have lb:=GdL.at hs2 gl _ (List.mem_of_getElem? hL)
  have tf:=trip_find (k:=0) (b:=at0 p (.lst st ls es)) hL hE fun j l' hj hl' => lab_ne hs2 gl hj hl' hL
  unfold Vk
  rw [if_pos (show itS (.lst st ls es) = stS (stp1 (0 + i) l).1 from sort_stp lb),want_stp]
  show Option.map _ (List.find? _ (V2 0 (at0 p (.lst st ls es)) ls es)) = _
  rw [tf]
  have sm:((stpL 0 ls).take i |>.map fun s => s.2.toNat).sum = ((ls.take i).map fun l => (lbB l).length).sum:=by
   have h:∀ (ls:List Lb) (k i:Nat),(∀ l ∈ ls,LbS st l)→((stpL k ls).take i |>.map fun s => s.2.toNat).sum = ((ls.take i).map fun l => (lbB l).length).sum:=by
    intro ls
    induction ls with
    | nil => intro k i _; simp [stpL]
    | cons l ls ih =>
     intro k i h
     cases i with
     | zero => simp
     | succ i =>
      have:=ih (k + 1) i fun x m => h x (List.mem_cons_of_mem _ m)
      have e:=stp_len (k:=k) (h l List.mem_cons_self)
      simp only [stpL,List.take_succ_cons,List.map_cons,List.sum_cons]
      rw [this,e]
      omega
   exact h ls 0 i fun l m => GdL.at hs2 gl l m
  have sn:=stp_len (k:=0 + i) lb
  simp only [Option.map_some,Yx,Y5]
  rw [sm,sn]
  simp
theorem spZ_mem {f:Nat→List Stp→IT→List SpT} {path:List Stp}:∀ {es:List IT} {ss:List (Stp × Int)} {b:Nat} {t:SpT},t ∈ spZ f path b es ss→∃ i e s,es[i]? = some e∧ss[i]? = some s∧t ∈ f (b + ((es.take i).map fun e => (Zi e).length).sum + ((ss.take i).map fun s => s.2.toNat).sum + s.2.toNat) (path ++ [s.1]) e
 | [],_,_,_,h => by simp [spZ] at h
 | _ :: _,[],_,_,h => by simp [spZ] at h
 | e :: es,s :: ss,b,t,h => by
  simp only [spZ] at h
  rcases List.mem_append.mp h with h | h
  ·exact ⟨0,e,s,rfl,rfl,by simpa using h⟩
  ·obtain ⟨i,e',s',h1,h2,h3⟩:=spZ_mem h
   refine ⟨i + 1,e',s',by simpa using h1,by simpa using h2, ?_⟩
   simp only [List.take_succ_cons,List.map_cons,List.sum_cons]
   rw [show b + ((Zi e).length + ((es.take i).map fun e => (Zi e).length).sum) + (s.2.toNat + ((ss.take i).map fun s => s.2.toNat).sum) + s'.2.toNat = b + s.2.toNat + (Zi e).length + ((es.take i).map fun e => (Zi e).length).sum + ((ss.take i).map fun s => s.2.toNat).sum + s'.2.toNat by omega]
   exact h3
theorem steps_ok {it:IT} (g:GdI it):∀ s ∈ Y5 it,stOk s.1:=by
 intro s m
 cases it with
 | whole n => cases m
 | text n => cases m
 | arm n e => rw [List.mem_singleton.mp m]; exact True.intro
 | lst st ls es =>
  obtain ⟨hs2,hl,gl,gs⟩:=g
  obtain ⟨i,hi⟩:=List.getElem?_of_mem m
  have il:i < ls.length:=by have:=(List.getElem?_eq_some_iff.mp hi).1; rw [show (Y5 (.lst st ls es)) = stpL 0 ls from rfl,stpL_len] at this; exact this
  have hL:ls[i]? = some ls[i]:=List.getElem?_eq_getElem il
  have:=stpL_get (k:=0) hL
  rw [show (Y5 (.lst st ls es)) = stpL 0 ls from rfl,this] at hi
  cases hi
  rcases GdL.at hs2 gl _ (List.mem_of_getElem? hL) with ⟨_,e⟩ | ⟨_,x,e,nx⟩ | ⟨_,n,e,_⟩ <;> rw [e]
  ·exact True.intro
  ·have:=nx.2.1
   show x.length ≤ 200
   omega
  ·exact True.intro
theorem sp_reach:∀ (n:Nat) (it:IT) (p:Nat) (path:List Stp),GdI it→∀ t ∈ spF n p path it,∃ sts,t.1 = path ++ sts∧reach p it sts = some (t.2.1,t.2.2)∧(∀ s ∈ sts,stOk s)∧sts.length ≤ n
 | 0,_,_,_,_,t,m => by simp [spF] at m
 | n + 1,it,p,path,g,t,m => by
  simp only [spF] at m
  rcases List.mem_cons.mp m with rfl | m
  ·exact ⟨[],by simp,rfl,fun s m => absurd m List.not_mem_nil,Nat.zero_le _⟩
  ·obtain ⟨i,e,s,h1,h2,h3⟩:=spZ_mem m
   obtain ⟨sts,x1,x2,x3,x4⟩:=sp_reach n e _ _ (parts_gd g e (List.mem_of_getElem? h1)) t h3
   refine ⟨s.1 :: sts,by rw [x1]; simp, ?_,fun y my => ?_,by rw [List.length_cons]; omega⟩
   ·show (Vk p it s.1).bind (fun r => reach r.1 r.2 sts) = _
    rw [step_at g h1 h2]
    exact x2
   ·rcases List.mem_cons.mp my with rfl | my
    ·exact steps_ok g s (List.mem_of_getElem? h2)
    ·exact x3 y my
abbrev s_law:Stmt:=top 62
abbrev N_law:List Str:=["_law_script","_law_k","_law_feed_here","_law_item_here","_law_file","_law_spans_here","_law_start","_law_some","_law_path","_law_begin","_law_end","_law_part","_law_found"]
theorem Uw:Zs N_law ["_law_script"] (Zk s_law):=by trivial
def spLaw (K:W.Frag):Sp:=fun vs H Q _ => ∃ (a:Addr) (ns:List Int),vs = [.ref a]∧Ym K H a (ns.map V.int)∧ns.length ≤ 63∧∀ H',Q (.bl true) H'
theorem mem_cut {xs:List V} {a b:Option Int} {x:V} (h:x ∈ Yr xs a b):x ∈ xs:=by
 unfold Yr at h
 exact List.mem_of_mem_drop (List.mem_of_mem_take h)
theorem isD4 {K:W.Frag} {H:Hp} {a b c d:D} {v:V} (h:Yv K H (.tup [a,b,c,d]) v):∃ p x y z u,v = .ref p∧Z9 K H p [x,y,z,u]∧Yv K H a x∧Yv K H b y∧Yv K H c z∧Yv K H d u:=by
 obtain ⟨p,vs,rfl,q,x,r,rfl,i1,y,r2,rfl,i2,z,r3,rfl,i3,u,r4,rfl,i4,e⟩:=h
 have e':r4 = []:=e
 subst e'
 exact ⟨p,x,y,z,u,rfl,q,i1,i2,i3,i4⟩
theorem are_mem {K:W.Frag} {H:Hp} {ds:List D} {vs:List V} {v:V} (h:Zn K H ds vs) (m:v ∈ vs):∃ d ∈ ds,Yv K H d v:=by
 induction ds generalizing vs with
 | nil =>
  have e:vs = []:=h
  subst e
  cases m
 | cons d ds ih =>
  obtain ⟨x,r,rfl,h1,h2⟩:=(show ∃ x r,vs = x :: r∧Yv K H d x∧Zn K H ds r from h)
  rcases List.mem_cons.mp m with rfl | m
  ·exact ⟨d,List.mem_cons_self,h1⟩
  ·obtain ⟨d',m',h'⟩:=ih h2 m
   exact ⟨d',List.mem_cons_of_mem _ m',h'⟩
section
variable {P:Program} {w:World} {K:W.Frag} {mg:Str→Option Value} {base:Heap} {f:Addr} {fd:FuncData}
theorem ok_law (F:Uj K "law" "law" s_law f fd) (m:Bn mg) (g_law_feed:Fn P w K mg base 1 "_law_feed" ["_law_script","_law_k"] (spFeed K)) (g_law_draw:Fn P w K mg base 1 "_law_draw" ["_law_feed_here","_law_many"] spDraw)
  (g_law_item:Fn P w K mg base 7 "_law_item" ["_law_feed_here","_law_deep"] (fun vs H Q E => ∃ d,d ≤ 5∧spI K Gd d vs H Q E)) (g_law_wrapped:Fn P w K mg base 1 "_law_wrapped" ["_law_item_here","_law_word","_law_many"] (spWrapped K))
  (g_law_packed:Fn P w K mg base 18 "_law_packed" ["_law_item_here"] (spLPack K (14 + 1))) (g_law_spans:Fn P w K mg base 36 "_law_spans" ["_law_item_here","_law_place","_law_path"] (spSpans K (14 + 1))) (g_packed:Fn P w K mg base 20 "packed" ["item"] (spPacked K 14))
  (g_span_at:Fn P w K mg base 7 "span_at" ["file","path"] (spSA K)) (g_item_at:Fn P w K mg base 22 "item_at" ["file","path"] (spIA K 14)):Yy P w K mg base Um 43 f fd ["_law_script"] (spLaw K):=by
 refine F.ok Uw (fun vs H Q E h => ?_) (fun cdv A outer s H vs Q E hr h => ?_)
 ·obtain ⟨a,ns,rfl,_⟩:=h
  rfl
 obtain ⟨a,ns,rfl,hS,h63,q⟩:=h
 have un:∀ n,n ≤ 200→(A.deeper (envOfC "law" (Zk s_law) s.heap.objs.size f cdv)).units + n < cLine:=fun n h => by
  have:=hr.un
  omega
 refine ⟨_,(@Zj _ _ _ _ _ (@ps_for _ _ _ _ _ _ _ _ PassesOwn.never rfl (@Vy _ _ _ _ _ _ rfl m.range (Zg Zx Zz rfl) (by trivial)) (@Z0 _ 1 _ _ Uw.nd rfl (Or.inl rfl) (by trivial)) (@Zj _ _ _ _ _ (@Zy _ 2 _ _ _ _ _ Uw.nd rfl (by trivial) (@Zw _ _ _ _ _ _ _ _ _ _ g_law_feed hr.m rfl (Zg (pv 0) (Zg (pv 1) Zz rfl) rfl) (by decide) rfl rfl) rfl (by trivial)) (@Zj _ _ _ _ _ (@Zy _ 3 _ _ _ _ _ Uw.nd rfl (by trivial) (@Zw _ _ _ _ _ _ _ _ _ _ g_law_item hr.m rfl (Zg (pv 2) (Zg (@Zf _ _ _ _ _ _ _ _ Z1 Zx (@Zw _ _ _ _ _ _ _ _ _ _ g_law_draw hr.m rfl (Zg (pv 2) (Zg Zx Zz rfl) rfl) (by decide) rfl rfl)) Zz rfl) rfl) (by decide) rfl rfl) rfl (by trivial)) (@Zj _ _ _ _ _ (@Z8 _ _ _ _ _ _ _ _ (@Zm _ _ _ _ _ _ _ _ Yf (@Zw _ _ _ _ _ _ _ _ _ _ g_law_draw hr.m rfl (Zg (pv 2) (Zg Zx Zz rfl) rfl) (by decide) rfl rfl) Zx (Zt _)) (@Zv _ _ _ (@Zy _ 3 _ _ _ _ _ Uw.nd rfl (by trivial) (@Zw _ _ _ _ _ _ _ _ _ _ g_law_wrapped hr.m rfl (Zg (pv 3) (Zg (@Zw _ _ _ _ _ _ _ _ _ _ g_law_draw hr.m rfl (Zg (pv 2) (Zg Zx Zz rfl) rfl) (by decide) rfl rfl) (Zg (@Zw _ _ _ _ _ _ _ _ _ _ g_law_draw hr.m rfl (Zg (pv 2) (Zg Zx Zz rfl) rfl) (by decide) rfl rfl) Zz rfl) rfl) rfl) (by decide) rfl rfl) rfl (by trivial))) Za) (@Zj _ _ _ _ _ (@Zy _ 4 _ _ _ _ _ Uw.nd rfl (by trivial) (@Zw _ _ _ _ _ _ _ _ _ _ g_law_packed hr.m rfl (Zg (pv 3) Zz rfl) (by decide) rfl rfl) rfl (by trivial)) (@Zj _ _ _ _ _ (@Zy _ 5 _ _ _ _ _ Uw.nd rfl (by trivial) (@Zw _ _ _ _ _ _ _ _ _ _ g_law_spans hr.m rfl (Zg (pv 3) (Zg Zx (Zg (@Z3 _ _ _ _ _ Zz) Zz rfl) rfl) rfl) (by decide) rfl rfl) rfl (by trivial)) (@Zj _ _ _ _ _ (@Zy _ 6 _ _ _ _ _ Uw.nd rfl (by trivial) (@Zw _ _ _ _ _ _ _ _ _ _ g_law_draw hr.m rfl (Zg (pv 2) (Zg (@Z5 _ _ _ _ _ _ _ _ _ Yg rfl m.len b_len (Zg (pv 5) Zz rfl) (by decide) (by decide) rfl rfl) Zz rfl) rfl) (by decide) rfl rfl) rfl (by trivial)) (@Zj _ _ _ _ _ (@Zy _ 7 _ _ _ _ _ Uw.nd rfl (by trivial) (@Zf _ _ _ _ _ _ _ _ op_cat (@pe_slice _ _ _ _ _ _ _ _ _ _ sl_list (pv 5) (@po_some _ _ _ (pv 6)) (@po_none _)) (@pe_slice _ _ _ _ _ _ _ _ _ _ sl_list (pv 5) (@po_none _) (@po_some _ _ _ (pv 6)))) rfl (by trivial)) (@Zv _ _ _ (@ps_for _ _ _ _ _ _ _ _ PassesOwn.never rfl (@pi_list _ _ _ _ (@pe_slice _ _ _ _ _ _ _ _ _ _ sl_list (pv 7) (@po_none _) (@po_some _ _ _ Zx))) (@pg_tup _ _ _ _ _ _ rfl (@Vj _ _ _ _ _ (@Z0 _ 8 _ _ Uw.nd rfl (Or.inl rfl) (by trivial)) (@Vj _ _ _ _ _ (@Z0 _ 9 _ _ Uw.nd rfl (Or.inl rfl) (by trivial)) (@Vj _ _ _ _ _ (@Z0 _ 10 _ _ Uw.nd rfl (Or.inl rfl) (by trivial)) (@Vj _ _ _ _ _ (@Z0 _ 11 _ _ Uw.nd rfl (Or.inl rfl) (by trivial)) pgs_nil (by trivial)) (by trivial)) (by trivial)) (by trivial)) (by trivial) (by trivial)) (@Zj _ _ _ _ _ (@Zy _ 12 _ _ _ _ _ Uw.nd rfl (by trivial) (@Zw _ _ _ _ _ _ _ _ _ _ g_span_at hr.m rfl (Zg (pv 4) (Zg (pv 8) Zz rfl) rfl) (by decide) rfl rfl) rfl (by trivial)) (@Zj _ _ _ _ _ (@Z8 _ _ _ _ _ _ _ _ (@PW.pt _ _ _ (@pw_or _ _ _ _ _ _ _ (@pt_not _ _ _ _ (@pt_val _ _ _ (@Z5 _ _ _ _ _ _ _ _ _ call_isiTh rfl m.isinstance b_isinstance (Zg (pv 12) (Zg (@pe_bltnT _ _ _ _ rfl m.tuple b_tuple (by decide) (by decide)) Zz rfl) rfl) (by decide) (by decide) rfl rfl) (by intro _; rfl))) (@pw_or1 _ _ _ _ (@Zm _ _ _ _ _ _ _ _ op_neD (pv 12) (@Z3 _ _ _ _ _ (Zg (pv 9) (Zg (pv 10) Zz rfl) rfl)) (Zt _))))) (@Zv _ _ _ (@Zd _ _ _ _ pe_bl)) Za) (@Zj _ _ _ _ _ (@Z8 _ _ _ _ _ _ _ _ (@PW.pt _ _ _ (@pw_or _ _ _ _ _ _ _ (@pt_val _ _ _ (@Z5 _ _ _ _ _ _ _ _ _ call_isiTh rfl m.isinstance b_isinstance (Zg (@Zr _ _ _ _ _ _ _ Zp (pv 12) Zx (fun _ _ => rfl)) (Zg (@pe_bltnT _ _ _ _ rfl m.bool b_bool (by decide) (by decide)) Zz rfl) rfl) (by decide) (by decide) rfl rfl) (by intro _; rfl)) (@pw_or1 _ _ _ _ (@pt_val _ _ _ (@Z5 _ _ _ _ _ _ _ _ _ call_isiTh rfl m.isinstance b_isinstance (Zg (@Zr _ _ _ _ _ _ _ Zp (pv 12) Zx (fun _ _ => rfl)) (Zg (@pe_bltnT _ _ _ _ rfl m.bool b_bool (by decide) (by decide)) Zz rfl) rfl) (by decide) (by decide) rfl rfl) (by intro _; rfl))))) (@Zv _ _ _ (@Zd _ _ _ _ pe_bl)) Za) (@Zv _ _ _ (@Z8 _ _ _ _ _ _ _ _ (@PW.pt _ _ _ (@pw_or _ _ _ _ _ _ _ (@Zm _ _ _ _ _ _ _ _ op_neD (@pe_slice _ _ _ _ _ _ _ _ _ _ sl_tupG (pv 4) (@po_some _ _ _ (pv 9)) (@po_some _ _ _ (pv 10))) (@Zw _ _ _ _ _ _ _ _ _ _ g_packed hr.m rfl (Zg (pv 11) Zz rfl) (by decide) rfl rfl) (Zt _)) (@pw_or1 _ _ _ _ (@Zm _ _ _ _ _ _ _ _ op_neD (@Zw _ _ _ _ _ _ _ _ _ _ g_item_at hr.m rfl (Zg (pv 4) (Zg (pv 8) Zz rfl) rfl) (by decide) rfl rfl) (pv 11) (Zt _))))) (@Zv _ _ _ (@Zd _ _ _ _ pe_bl)) Za))))) (by trivial)))))))))) (by trivial)) (@Zv _ _ _ (@Zd _ _ _ _ pe_bl))), ?_⟩
 refine ⟨4,rfl,by decide,by decide,for_range (n:=4) (fun i σ H2 => (∃ o1 o2 o3 o4 o5 o6 o7 o8 o9 o10 o11 o12,σ = [some (.ref a),o1,o2,o3,o4,o5,o6,o7,o8,o9,o10,o11,o12])∧Zb H H2) ⟨⟨_,_,_,_,_,_,_,_,_,_,_,_,rfl⟩,Zb.refl H⟩ ?_ ?_⟩
 ·rintro i σ H2 hi ⟨⟨o1,o2,o3,o4,o5,o6,o7,o8,o9,o10,o11,o12,rfl⟩,s2⟩
  refine ⟨_,rfl,_,rfl,a,ns,_,rfl,s2.seq hS,h63,by omega,fun l H3 s3 hl0 fe => ?_⟩
  have nl:H l = none:=s2.free hl0
  have s23:Zb H H3:=s2.trans s3
  refine ⟨_,rfl,_,rfl,l,4,rfl,fe,by decide,by decide,fun r4 H4 a4 b4 t4 => ?_⟩
  have e4:1 + r4 = (((1 + r4).toNat:Nat):Int):=by omega
  refine ⟨_,_,rfl,rfl,(1 + r4).toNat + 1,by omega,l,(by rw [← e4]; rfl),t4.feed,fun v e H5 ie de t5 => ?_⟩
  have t05:=t4.trans t5
  generalize hk:(1 + r4).toNat + 1 = k at ie
  have k5:k ≤ 5:=by omega
  obtain ⟨it,rfl,ni⟩:=itm_it k e ie
  have ln:(Zi it).length ≤ 36300:=Nat.le_trans ni.ln (lnB_mono k5)
  have dp:Vx it ≤ 5:=Nat.le_trans ni.dp k5
  have gd:=ni.gd
  refine ⟨_,rfl,l,2,rfl,t05.feed,by decide,by decide,fun r6 H6 a6 b6 t6 => ⟨rfl,_,rfl, ?_⟩⟩
  have hd6:=Yv.up (t6.up t05.feed) _ _ (Z7 it) de
  have t06:=t05.trans t6
  refine ite2 (fun c => ?wr) (fun c => ?pl)
  case' wr =>
   refine ⟨_,rfl,_,rfl,l,4,rfl,t06.feed,by decide,by decide,fun r7 H7 a7 b7 t7 => ⟨_,rfl,l,7,rfl,(t06.trans t7).feed,by decide,by decide,fun r8 H8 a8 b8 t8 => ?_⟩⟩
   refine ⟨v,r7,r8,it,rfl,Yv.up ((t7.trans t8).up t06.feed) _ _ (Z7 it) hd6,gd,a7,by omega,a8,by omega,fun v9 it9 H9 s9 hd9 gd9 dp9 ln9 => ?_⟩
   have tt:=(t06.trans (t7.trans t8)).same s9
   have dpx:Vx it9 ≤ 15:=by omega
   have lnx:(Zi it9).length ≤ 40000:=by omega
   clear ni gd de hd6 dp ln ln9 dp9 s9 t7 t8 t6 t05 t06 ie t5
   generalize v9 = vv at *
   generalize it9 = tI at *
   generalize H9 = HH at *
  case' pl =>
   have tt:=t06
   have hd9:=hd6
   have gd9:=gd
   have dpx:Vx it ≤ 15:=by omega
   have lnx:(Zi it).length ≤ 40000:=by omega
   clear ni gd de hd6 dp ln t6 t05 t06 ie t5
   generalize v = vv at *
   generalize it = tI at *
   generalize H6 = HH at *
  all_goals
   have nI:=Z7 tI
   refine ⟨_,rfl,vv,tI,rfl,hd9,gd9,dpx,by omega,fun rq H10 s10 h10 => ?_⟩
   refine ⟨_,rfl,(sz 0),fun pt hpt => ?_⟩
   have s11:=s10.trans (Zb.lay (o:=.tup []) hpt)
   refine ⟨vv,.ref pt,tI,0,[],rfl,Yv.up s11.up _ _ nI hd9,gd9,dpx,dpx,by omega,by simp,⟨pt,[],rfl,Z9.of Zq,rfl⟩,fun rs us H12 s12 h12 a12 => ?_⟩
   have s112:=s11.trans s12
   have t12:=tt.same s112
   have ul:us.length = (spF (14 + 1) 0 [] tI).length:=by rw [← a12.length,List.length_map]
   have ul1:=spF_len (14 + 1) tI gd9 0 []
   have ul0:1 ≤ (spF (14 + 1) 0 [] tI).length:=by simp only [spF,List.length_cons]; omega
   refine ⟨_,rfl,_,rfl,rs,us,rfl,.inl (Ym.of h12),l,(us.length:Int),rfl,t12.feed,by omega,by omega,fun r13 H13 a13 b13 t13 => ?_⟩
   have nrl:rs ≠ l:=fun z => by
    obtain ⟨_,_,_,_,hx⟩:=t12.feed
    rw [z,hx] at h12
    cases h12
    have:=a12.length
    rw [List.length_map] at this
    simp only [spF,List.length_cons,List.length_nil] at this
    simp only [spF] at a12
    obtain ⟨v0,r0,e0,i0,_⟩:=a12
    cases e0
    obtain ⟨_,_,e1,_⟩:=i0
    cases e1
   have h13:=t13.keep _ _ nrl h12
   have u13:=t13.up (K:=K) t12.feed
   refine ⟨_,rfl,_,rfl,_,rfl,rs,us,rfl,Ym.of h13,fun p1 hp1 => ?_⟩
   have n1:rs ≠ p1:=Zl h13 hp1
   refine ⟨_,rfl,_,rfl,_,rfl,rs,us,rfl,Ym.of (by rw [Zh n1]; exact h13),fun p2 hp2 => ?_⟩
   have n2:p1 ≠ p2:=Zl Zq hp2
   have b1:=cutV_length us (some r13) none
   have b2:=cutV_length us none (some r13)
   refine ⟨p1,p2,_,_,rfl,rfl,by rw [Zh n2]; exact Zq,Zq, ?_,fun p3 hp3 => ?_⟩
   ·have:=sizeLine_eq
    omega
   refine ⟨_,rfl,_,rfl,p3,_,rfl,Ym.of Zq,fun p4 hp4 => ⟨p4,rfl,⟨_,Ym.of Zq⟩, ?_⟩⟩
   have mz:∀ x ∈ Yr (Yr us (some r13) none ++ Yr us none (some r13)) none (some 30),x ∈ us:=fun x hx => by
    rcases List.mem_append.mp (mem_cut hx) with h | h
    ·exact mem_cut h
    ·exact mem_cut h
   have s34:=((Zb.lay (o:=.lst (Yr us (some r13) none)) hp1).trans (Zb.lay (o:=.lst (Yr us none (some r13))) hp2)).trans ((Zb.lay (o:=.lst (Yr us (some r13) none ++ Yr us none (some r13))) hp3).trans (Zb.lay (o:=.lst (Yr (Yr us (some r13) none ++ Yr us none (some r13)) none (some 30))) hp4))
   have l14:Z4 (Z4 (Z4 (Z4 H13 p1 (.lst (Yr us (some r13) none))) p2 (.lst (Yr us none (some r13)))) p3 (.lst (Yr us (some r13) none ++ Yr us none (some r13)))) p4 (.lst (Yr (Yr us (some r13) none ++ Yr us none (some r13)) none (some 30))) p4 = some (.lst (Yr (Yr us (some r13) none ++ Yr us none (some r13)) none (some 30))):=Zq
   show ∃ W:Nat→Nat→L2.St→Hp→Prop,(∃ m,W 0 m _ (Z4 (Z4 (Z4 (Z4 H13 p1 (.lst (Yr us (some r13) none))) p2 (.lst (Yr us none (some r13)))) p3 (.lst (Yr us (some r13) none ++ Yr us none (some r13)))) p4 (.lst (Yr (Yr us (some r13) none ++ Yr us none (some r13)) none (some 30)))))∧_
   generalize (Z4 (Z4 (Z4 (Z4 H13 p1 (.lst (Yr us (some r13) none))) p2 (.lst (Yr us none (some r13)))) p3 (.lst (Yr us (some r13) none ++ Yr us none (some r13)))) p4 (.lst (Yr (Yr us (some r13) none ++ Yr us none (some r13)) none (some 30)))) = H14 at s34 l14
   generalize Yr (Yr us (some r13) none ++ Yr us none (some r13)) none (some 30) = zs at mz l14
   have u14:=u13.trans (s34.up (K:=K))
   have a14:Zn K H14 ((spF (14 + 1) 0 [] tI).map spD) us:=Zn.up u14 _ _ (sps_noL _) a12
   have f14:Z9 K H14 rq (bv (Zi tI)):=u14 _ _ ((Zb.trans (Zb.lay hpt) s12).up _ _ h10)
   have t14:=(t12.trans t13).same s34
   refine for_list (K:=K) (a:=p4) (xs:=zs) (fun j σ H15 => (∃ o1' o8 o9 o10 o11 o12,σ = [some (.ref a),o1',some (.ref l),some vv,some (.ref rq),some (.ref rs),some (.int r13),some (.ref p3),o8,o9,o10,o11,o12])∧Zb H14 H15) ⟨⟨_,_,_,_,_,_,rfl⟩,Zb.refl _⟩ ?_ ?_ ?_
   ·rintro j σ H15 hj ⟨_,s15⟩
    exact Ym.of (s15 _ _ l14)
   ·rintro j x σ H15 hx ⟨⟨o1',o8',o9',o10',o11',o12',rfl⟩,s15⟩
    obtain ⟨d,md,dx⟩:=are_mem a14 (mz x (List.mem_of_getElem? hx))
    obtain ⟨t,mt,rfl⟩:=List.mem_map.mp md
    obtain ⟨sts,e1,rc,sk,_⟩:=sp_reach (14 + 1) tI 0 [] gd9 t mt
    rw [List.nil_append] at e1
    have i0:InF (Zi tI) 0 tI:=⟨⟨[],by simp⟩,gd9,by omega⟩
    have inn:=reach_in _ i0 rc
    have dpe:=reach_dp _ rc
    have dpu:=dp_toD t.2.2
    obtain ⟨px,x1,x2,x3,x4,rfl,hpx,d1,d2,d3,d4⟩:=isD4 (show Yv K H14 (.tup [.tup (t.1.map stD),.int ((t.2.1:Nat):Int),.int ((t.2.1 + (Zi t.2.2).length:Nat):Int),toD t.2.2]) x from dx)
    obtain rfl:x2 = .int ((t.2.1:Nat):Int):=d2
    obtain rfl:x3 = .int ((t.2.1 + (Zi t.2.2).length:Nat):Int):=d3
    obtain ⟨pa,xs,rfl,hpa,ax⟩:=d1
    rw [e1] at ax
    have nS:noLs (sts.map stD) = true:=st_noLs sts
    refine ⟨px,_,rfl,s15.up _ _ hpx,rfl,_,_,rfl,_,_,rfl,_,_,rfl,_,_,rfl,rfl, ?_⟩
    refine ⟨_,rfl,_,rfl,rq,pa,xs,tI,sts,t.2.1,t.2.2,rfl,s15.up _ _ f14,gd9,by omega,s15.up _ _ hpa,Zn.up s15.up _ _ nS ax,sk,rc,fun r16 H16 s16 h16 => ?_⟩
    have s146:=s15.trans s16
    refine ⟨_,rfl,_,"tuple",.tup [.int ((t.2.1:Nat):Int),.int ((t.2.1 + (Zi t.2.2).length:Nat):Int)],rfl,⟨r16,_,rfl,h16,_,_,rfl,rfl,_,_,rfl,rfl,rfl⟩,by decide,true,rfl,iteF ?_⟩
    refine ⟨_,rfl,_,rfl,_,rfl,(sz 2),fun t17 h17 => ?_⟩
    have s17:=Zb.lay (o:=.tup [.int ((t.2.1:Nat):Int),.int ((t.2.1 + (Zi t.2.2).length:Nat):Int)]) h17
    refine ⟨.tup [.int ((t.2.1:Nat):Int),.int ((t.2.1 + (Zi t.2.2).length:Nat):Int)],.tup [.int ((t.2.1:Nat):Int),.int ((t.2.1 + (Zi t.2.2).length:Nat):Int)],⟨r16,_,rfl,s17.up _ _ h16,Zn.two rfl rfl⟩,⟨t17,_,rfl,Z9.of Zq,Zn.two rfl rfl⟩,un (dpD (.tup [.int ((t.2.1:Nat):Int),.int ((t.2.1 + (Zi t.2.2).length:Nat):Int)])) (by simp only [dpD,dpDs]; omega),_,rfl, ?_⟩
    rw [eqD_refl]
    refine iteF ?_
    refine ⟨_,rfl,r16,_,_,_,rfl,rfl,s17.up _ _ h16,rfl,_,"bool",.int ((t.2.1:Nat):Int),rfl,rfl,by decide,false,rfl,iteF ?_⟩
    refine ⟨_,rfl,r16,_,_,_,rfl,rfl,s17.up _ _ h16,rfl,_,"bool",.int ((t.2.1 + (Zi t.2.2).length:Nat):Int),rfl,rfl,by decide,false,rfl,iteF ?_⟩
    have s147:=s146.trans s17
    refine ⟨_,rfl,_,rfl,_,rfl,_,rfl,_,rfl,rq,_,rfl,s147.up _ _ f14,fun c18 H18 s18 h18 => ?_⟩
    rw [cut_at inn.at' (byI_ne _)] at h18
    have s148:=s147.trans s18
    refine ⟨_,rfl,x4,t.2.2,rfl,Yv.up s148.up _ _ (Z7 _) d4,inn.gd,by omega,inn.ln,fun r19 H19 s19 h19 => ?_⟩
    refine ⟨bD (Zi t.2.2),bD (Zi t.2.2),isB (s19.up _ _ h18),isB (Z9.of h19),un (dpD (bD (Zi t.2.2))) (by rw [dpB]; omega),_,rfl, ?_⟩
    rw [eqD_refl]
    refine iteF ?_
    have s149:=s148.trans s19
    refine ⟨_,rfl,_,rfl,rq,pa,xs,tI,sts,t.2.1,t.2.2,rfl,s149.up _ _ f14,gd9,by omega,dpx,by omega,s149.up _ _ hpa,Zn.up s149.up _ _ nS ax,sk,rc,fun v20 H20 s20 d20 => ?_⟩
    have s1420:=s149.trans s20
    refine ⟨_,rfl,toD t.2.2,toD t.2.2,d20,Yv.up s1420.up _ _ (Z7 _) d4,un (dpD (toD t.2.2)) (by omega),_,rfl, ?_⟩
    rw [eqD_refl]
    exact iteF ⟨⟨_,_,_,_,_,_,rfl⟩,s1420⟩
   ·rintro σ H15 ⟨⟨o1',o8',o9',o10',o11',o12',rfl⟩,s15⟩
    exact ⟨⟨_,_,_,_,_,_,_,_,_,_,_,_,rfl⟩,fun x o hx => (t14.same s15).keep _ _ (Zl hx nl) (s23 _ _ hx)⟩
 ·rintro σ H2 ⟨_,s2⟩
  exact q _
end
structure FA (K:W.Frag) (x:Str) (st:Stmt) (f:Addr) (fd:FuncData):Prop where
 a:W.nsIn K mainGlobals x = some (some (.ref f))
 F:Uj K x x st f fd
set_option maxHeartbeats 0 in
theorem all_mk {l:W.OpenLaw} {w:World} {K:W.Frag} {h:Heap} {mg:Str→Option Value} {fa f1 f2 f3 f4 f5 f6 f7 f8 f9 f10 f11 f12 f13 f14 f15 f16 f17 f18 f19 f20 f21 f22 f23 f24 f25 f26 f27 f28 f29 f30 f31 f32 f33 f34 f35 f36 f37 f38 f39 f40 f41 f42 f43 C aS aB aT g1 g2 g3 g4 g5 g6:Addr} {d1 d2 d3 d4 d5 d6 d7 d8 d9 d10 d11 d12 d13 d14 d15 d16 d17 d18 d19 d20 d21 d22 d23 d24 d25 d26 d27 d28 d29 d30 d31 d32 d33 d34 d35 d36 d37 d38 d39 d40 d41 d42 d43 e1 e2 e3 e4 e5 e6:FuncData} (X:K.In h) (G:h.Ns mainGlobals mg) (hfa:mg "law" = some (.ref fa))
  {slS:Array (Option Value)} {nS nB nT:Nat} {esB esT:Array DictEntry} {ts0 ts1 ts2 ts3 ts4 ts5 tm trr tr tr2 tr3 tr4:Tok}
  (h1:FA K "long_of" s_long_of f1 d1)
  (h2:FA K "behind_long" s_behind_long f2 d2)
  (h3:FA K "long_at" s_long_at f3 d3)
  (h4:FA K "packed" s_packed f4 d4)
  (h5:FA K "pack_item" s_pack_item f5 d5)
  (h6:FA K "pack_label" s_pack_label f6 d6)
  (h7:FA K "pack_signs" s_pack_signs f7 d7)
  (h8:FA K "pack_bytes" s_pack_bytes f8 d8)
  (h9:FA K "folded" s_folded f9 d9)
  (h10:FA K "unfolded" s_unfolded f10 d10)
  (h11:FA K "unpacked_between" V3 f11 d11)
  (h12:FA K "next_item" s_next_item f12 d12)
  (h13:FA K "next_text" s_next_text f13 d13)
  (h14:FA K "next_sign" s_next_sign f14 d14)
  (h15:FA K "next_letter" s_next_letter f15 d15)
  (h16:FA K "next_label" s_next_label f16 d16)
  (h17:FA K "next_number" s_next_number f17 d17)
  (h18:FA K "next_key" s_next_key f18 d18)
  (h19:FA K "span_at" s_span_at f19 d19)
  (h20:FA K "item_at" s_item_at f20 d20)
  (h21:FA K "place_behind" Uv f21 d21)
  (h22:FA K "codes_of" s_codes_of f22 d22)
  (h23:FA K "arm_part" s_arm_part f23 d23)
  (h24:FA K "room_parts" s_room_parts f24 d24)
  (h25:FA K "behind_label" s_behind_label f25 d25)
  (h26:FA K "label_at" s_label_at f26 d26)
  (h27:FA K "behind_item" s_behind_item f27 d27)
  (h28:FA K "_law_feed" s_law_feed f28 d28)
  (h29:FA K "_law_draw" s_law_draw f29 d29)
  (h30:FA K "_law_name" s_law_name f30 d30)
  (h31:FA K "_law_number" s_law_number f31 d31)
  (h32:FA K "_law_whole" s_law_whole f32 d32)
  (h33:FA K "_law_text" s_law_text f33 d33)
  (h34:FA K "_law_item" s_law_item f34 d34)
  (h35:FA K "_law_wrapped" s_law_wrapped f35 d35)
  (h36:FA K "_law_parts" s_law_parts f36 d36)
  (h37:FA K "_law_long" s_law_long f37 d37)
  (h38:FA K "_law_key" s_law_key f38 d38)
  (h39:FA K "_law_packed" s_law_packed f39 d39)
  (h40:FA K "_law_steps" Uz f40 d40)
  (h41:FA K "_law_rest" s_law_rest f41 d41)
  (h42:FA K "_law_spans" s_law_spans f42 d42)
  (h43:FA K "law" s_law f43 d43)
  (aC:W.nsIn K mainGlobals "Reader" = some (some (.ref C)))
  (mj1:W.findIn K (.ref C) "__init__" = some (some (.ref g1))) (ij1:W.isFn K (.ref g1) = true) (J_init:Uj K "__init__" "Reader.__init__" s_Reader_init g1 e1)
  (mj2:W.findIn K (.ref C) "next_byte" = some (some (.ref g2))) (ij2:W.isFn K (.ref g2) = true) (J_next_byte:Uj K "next_byte" "Reader.next_byte" V5 g2 e2)
  (mj3:W.findIn K (.ref C) "must" = some (some (.ref g3))) (ij3:W.isFn K (.ref g3) = true) (J_must:Uj K "must" "Reader.must" s_Reader_must g3 e3)
  (mj4:W.findIn K (.ref C) "next_long" = some (some (.ref g4))) (ij4:W.isFn K (.ref g4) = true) (J_next_long:Uj K "next_long" "Reader.next_long" V4 g4 e4)
  (mj5:W.findIn K (.ref C) "enter_room" = some (some (.ref g5))) (ij5:W.isFn K (.ref g5) = true) (J_enter_room:Uj K "enter_room" "Reader.enter_room" Vh g5 e5)
  (mj6:W.findIn K (.ref C) "leave_room" = some (some (.ref g6))) (ij6:W.isFn K (.ref g6) = true) (J_leave_room:Uj K "leave_room" "Reader.leave_room" Vs g6 e6)
  (pg:W.plainGet K C Str.empty = true) (hd:W.hasDictIn K C = true) (po:W.plainOver K C = true) (sa:W.findIn K (.ref C) "__setattr__" = some (some (.builtin "object.__setattr__"))) (mk:W.makesIn K C = true) (kc:W.keepIn K (.ref C) = true)
  (n1:W.findIn K (.ref C) "source" = some none) (n2:W.findIn K (.ref C) "at" = some none) (n3:W.findIn K (.ref C) "end" = some none)
  (aSo:W.nsIn K mainGlobals "SORTS" = some (some (.ref aS))) (lSo:K.lookup aS = some ⟨.type "tuple",none,.seq #[.str "whole" ts0,.str "text" ts1,.str "row" ts2,.str "map" ts3,.str "rec" ts4,.str "arm" ts5] nS,slS⟩)
  (aSt:W.nsIn K mainGlobals "SORTS_OF_STEPS" = some (some (.ref aT))) (lSt:K.lookup aT = some ⟨.type "dict",none,.dict esT nT, #[]⟩) (kSt:W.KeysLit w.params esT.toList) (bR:W.nsIn K aT "at" = some (some (.str "row" tr))) (bK:W.nsIn K aT "key" = some (some (.str "map" tr2))) (bF:W.nsIn K aT "field" = some (some (.str "rec" tr3))) (bA:W.nsIn K aT "arm" = some (some (.str "arm" tr4)))
  (aBe:W.nsIn K mainGlobals "BELOW_LABELS" = some (some (.ref aB))) (lBe:K.lookup aB = some ⟨.type "dict",none,.dict esB nB, #[]⟩) (kBe:W.KeysLit w.params esB.toList)
  (bRw:W.nsIn K aB "row" = some (some .none)) (bMp:W.nsIn K aB "map" = some (some (.str "" tm))) (bRc:W.nsIn K aB "rec" = some (some (.int 0 trr)))
  {tk0 tk1 tk2 tk3 tk4 tk5 tk6 tk7:Tok}
  (y_LETTERS : W.nsIn K mainGlobals "LETTERS" = some (some (.str "abcdefghijklmnopqrstuvwxyz" tk0))) (y_SIGNS : W.nsIn K mainGlobals "SIGNS" = some (some (.str " !\"#$&'()*+,-./0123456789:;<=>?\x40ABCDEFGHIJKLMNOPQRSTUVWXYZ[\\]^_`abcdefghijklmnopqrstuvwxyz{|}~" tk1))) (y_GREATEST_WHOLE : W.nsIn K mainGlobals "GREATEST_WHOLE" = some (some (.int 1000000000000000000 tk2))) (y_GREATEST_NUMBER : W.nsIn K mainGlobals "GREATEST_NUMBER" = some (some (.int 999 tk3))) (y_LONGEST_TEXT : W.nsIn K mainGlobals "LONGEST_TEXT" = some (some (.int 200 tk4))) (y_LONGEST_NAME : W.nsIn K mainGlobals "LONGEST_NAME" = some (some (.int 8 tk5))) (y_DEEPEST : W.nsIn K mainGlobals "DEEPEST" = some (some (.int 100 tk6))) (y_GREATEST_SIZE : W.nsIn K mainGlobals "GREATEST_SIZE" = some (some (.int 1000000 tk7)))
  (z_len:W.nsIn K mainGlobals "len" = some none) (z_ord:W.nsIn K mainGlobals "ord" = some none) (z_max:W.nsIn K mainGlobals "max" = some none) (z_sorted:W.nsIn K mainGlobals "sorted" = some none) (z_isinstance:W.nsIn K mainGlobals "isinstance" = some none) (z_tuple:W.nsIn K mainGlobals "tuple" = some none) (z_list:W.nsIn K mainGlobals "list" = some none) (z_set:W.nsIn K mainGlobals "set" = some none) (z_int:W.nsIn K mainGlobals "int" = some none) (z_str:W.nsIn K mainGlobals "str" = some none) (z_bool:W.nsIn K mainGlobals "bool" = some none) (z_range:W.nsIn K mainGlobals "range" = some none) (z_zip:W.nsIn K mainGlobals "zip" = some none) (z_reversed:W.nsIn K mainGlobals "reversed" = some none) (z_enumerate:W.nsIn K mainGlobals "enumerate" = some none) (z_sum:W.nsIn K mainGlobals "sum" = some none) :
  ∃ fd:FuncData,(∀ (s:Shared) (v:Value),BindsTo s fd ⟨[v],[]⟩ [("_law_script",v)])∧∀ base:Heap,K.In base→base.Ns mainGlobals mg→Yy l.prog w K mg base Um 43 fa fd ["_law_script"] (spLaw K):=by
 have e:=hfa.symm.trans (W.mg_of X G h43.a)
 cases e
 have F_long_of:=h1.F
 have b_long_of:=F_long_of.binds (ps:=["n"]) fun _ _ _ _ _ _ us hl => match us,hl with | [_],_ => rfl
 have m_long_of:=W.mg_of X G h1.a
 have F_behind_long:=h2.F
 have b_behind_long:=F_behind_long.binds (ps:=["file","at"]) fun _ _ _ _ _ _ us hl => match us,hl with | [_,_],_ => rfl
 have m_behind_long:=W.mg_of X G h2.a
 have F_long_at:=h3.F
 have b_long_at:=F_long_at.binds (ps:=["file","at"]) fun _ _ _ _ _ _ us hl => match us,hl with | [_,_],_ => rfl
 have m_long_at:=W.mg_of X G h3.a
 have F_packed:=h4.F
 have b_packed:=F_packed.binds (ps:=["item"]) fun _ _ _ _ _ _ us hl => match us,hl with | [_],_ => rfl
 have m_packed:=W.mg_of X G h4.a
 have F_pack_item:=h5.F
 have b_pack_item:=F_pack_item.binds (ps:=["backwards","item"]) fun _ _ _ _ _ _ us hl => match us,hl with | [_,_],_ => rfl
 have m_pack_item:=W.mg_of X G h5.a
 have F_pack_label:=h6.F
 have b_pack_label:=F_pack_label.binds (ps:=["backwards","sort","part"]) fun _ _ _ _ _ _ us hl => match us,hl with | [_,_,_],_ => rfl
 have m_pack_label:=W.mg_of X G h6.a
 have F_pack_signs:=h7.F
 have b_pack_signs:=F_pack_signs.binds (ps:=["backwards","text"]) fun _ _ _ _ _ _ us hl => match us,hl with | [_,_],_ => rfl
 have m_pack_signs:=W.mg_of X G h7.a
 have F_pack_bytes:=h8.F
 have b_pack_bytes:=F_pack_bytes.binds (ps:=["backwards","codes"]) fun _ _ _ _ _ _ us hl => match us,hl with | [_,_],_ => rfl
 have m_pack_bytes:=W.mg_of X G h8.a
 have F_folded:=h9.F
 have b_folded:=F_folded.binds (ps:=["n"]) fun _ _ _ _ _ _ us hl => match us,hl with | [_],_ => rfl
 have m_folded:=W.mg_of X G h9.a
 have F_unfolded:=h10.F
 have b_unfolded:=F_unfolded.binds (ps:=["n"]) fun _ _ _ _ _ _ us hl => match us,hl with | [_],_ => rfl
 have m_unfolded:=W.mg_of X G h10.a
 have F_unpacked_between:=h11.F
 have b_unpacked_between:=F_unpacked_between.binds (ps:=["file","begin","end"]) fun _ _ _ _ _ _ us hl => match us,hl with | [_,_,_],_ => rfl
 have m_unpacked_between:=W.mg_of X G h11.a
 have F_next_item:=h12.F
 have b_next_item:=F_next_item.binds (ps:=["reader","deep"]) fun _ _ _ _ _ _ us hl => match us,hl with | [_,_],_ => rfl
 have m_next_item:=W.mg_of X G h12.a
 have F_next_text:=h13.F
 have b_next_text:=F_next_text.binds (ps:=["reader"]) fun _ _ _ _ _ _ us hl => match us,hl with | [_],_ => rfl
 have m_next_text:=W.mg_of X G h13.a
 have F_next_sign:=h14.F
 have b_next_sign:=F_next_sign.binds (ps:=["reader"]) fun _ _ _ _ _ _ us hl => match us,hl with | [_],_ => rfl
 have m_next_sign:=W.mg_of X G h14.a
 have F_next_letter:=h15.F
 have b_next_letter:=F_next_letter.binds (ps:=["reader"]) fun _ _ _ _ _ _ us hl => match us,hl with | [_],_ => rfl
 have m_next_letter:=W.mg_of X G h15.a
 have F_next_label:=h16.F
 have b_next_label:=F_next_label.binds (ps:=["reader","sort","last"]) fun _ _ _ _ _ _ us hl => match us,hl with | [_,_,_],_ => rfl
 have m_next_label:=W.mg_of X G h16.a
 have F_next_number:=h17.F
 have b_next_number:=F_next_number.binds (ps:=["reader","last"]) fun _ _ _ _ _ _ us hl => match us,hl with | [_,_],_ => rfl
 have m_next_number:=W.mg_of X G h17.a
 have F_next_key:=h18.F
 have b_next_key:=F_next_key.binds (ps:=["reader","last"]) fun _ _ _ _ _ _ us hl => match us,hl with | [_,_],_ => rfl
 have m_next_key:=W.mg_of X G h18.a
 have F_span_at:=h19.F
 have b_span_at:=F_span_at.binds (ps:=["file","path"]) fun _ _ _ _ _ _ us hl => match us,hl with | [_,_],_ => rfl
 have m_span_at:=W.mg_of X G h19.a
 have F_item_at:=h20.F
 have b_item_at:=F_item_at.binds (ps:=["file","path"]) fun _ _ _ _ _ _ us hl => match us,hl with | [_,_],_ => rfl
 have m_item_at:=W.mg_of X G h20.a
 have F_place_behind:=h21.F
 have b_place_behind:=F_place_behind.binds (ps:=["file","at","step"]) fun _ _ _ _ _ _ us hl => match us,hl with | [_,_,_],_ => rfl
 have m_place_behind:=W.mg_of X G h21.a
 have F_codes_of:=h22.F
 have b_codes_of:=F_codes_of.binds (ps:=["name"]) fun _ _ _ _ _ _ us hl => match us,hl with | [_],_ => rfl
 have m_codes_of:=W.mg_of X G h22.a
 have F_arm_part:=h23.F
 have b_arm_part:=F_arm_part.binds (ps:=["file","at"]) fun _ _ _ _ _ _ us hl => match us,hl with | [_,_],_ => rfl
 have m_arm_part:=W.mg_of X G h23.a
 have F_room_parts:=h24.F
 have b_room_parts:=F_room_parts.binds (ps:=["file","at"]) fun _ _ _ _ _ _ us hl => match us,hl with | [_,_],_ => rfl
 have m_room_parts:=W.mg_of X G h24.a
 have F_behind_label:=h25.F
 have b_behind_label:=F_behind_label.binds (ps:=["file","at","sort"]) fun _ _ _ _ _ _ us hl => match us,hl with | [_,_,_],_ => rfl
 have m_behind_label:=W.mg_of X G h25.a
 have F_label_at:=h26.F
 have b_label_at:=F_label_at.binds (ps:=["file","at","sort"]) fun _ _ _ _ _ _ us hl => match us,hl with | [_,_,_],_ => rfl
 have m_label_at:=W.mg_of X G h26.a
 have F_behind_item:=h27.F
 have b_behind_item:=F_behind_item.binds (ps:=["file","at"]) fun _ _ _ _ _ _ us hl => match us,hl with | [_,_],_ => rfl
 have m_behind_item:=W.mg_of X G h27.a
 have F_law_feed:=h28.F
 have b_law_feed:=F_law_feed.binds (ps:=["_law_script","_law_k"]) fun _ _ _ _ _ _ us hl => match us,hl with | [_,_],_ => rfl
 have m_law_feed:=W.mg_of X G h28.a
 have F_law_draw:=h29.F
 have b_law_draw:=F_law_draw.binds (ps:=["_law_feed_here","_law_many"]) fun _ _ _ _ _ _ us hl => match us,hl with | [_,_],_ => rfl
 have m_law_draw:=W.mg_of X G h29.a
 have F_law_name:=h30.F
 have b_law_name:=F_law_name.binds (ps:=["_law_feed_here"]) fun _ _ _ _ _ _ us hl => match us,hl with | [_],_ => rfl
 have m_law_name:=W.mg_of X G h30.a
 have F_law_number:=h31.F
 have b_law_number:=F_law_number.binds (ps:=["_law_feed_here"]) fun _ _ _ _ _ _ us hl => match us,hl with | [_],_ => rfl
 have m_law_number:=W.mg_of X G h31.a
 have F_law_whole:=h32.F
 have b_law_whole:=F_law_whole.binds (ps:=["_law_feed_here"]) fun _ _ _ _ _ _ us hl => match us,hl with | [_],_ => rfl
 have m_law_whole:=W.mg_of X G h32.a
 have F_law_text:=h33.F
 have b_law_text:=F_law_text.binds (ps:=["_law_feed_here"]) fun _ _ _ _ _ _ us hl => match us,hl with | [_],_ => rfl
 have m_law_text:=W.mg_of X G h33.a
 have F_law_item:=h34.F
 have b_law_item:=F_law_item.binds (ps:=["_law_feed_here","_law_deep"]) fun _ _ _ _ _ _ us hl => match us,hl with | [_,_],_ => rfl
 have m_law_item:=W.mg_of X G h34.a
 have F_law_wrapped:=h35.F
 have b_law_wrapped:=F_law_wrapped.binds (ps:=["_law_item_here","_law_word","_law_many"]) fun _ _ _ _ _ _ us hl => match us,hl with | [_,_,_],_ => rfl
 have m_law_wrapped:=W.mg_of X G h35.a
 have F_law_parts:=h36.F
 have b_law_parts:=F_law_parts.binds (ps:=["_law_item_here"]) fun _ _ _ _ _ _ us hl => match us,hl with | [_],_ => rfl
 have m_law_parts:=W.mg_of X G h36.a
 have F_law_long:=h37.F
 have b_law_long:=F_law_long.binds (ps:=["_law_n"]) fun _ _ _ _ _ _ us hl => match us,hl with | [_],_ => rfl
 have m_law_long:=W.mg_of X G h37.a
 have F_law_key:=h38.F
 have b_law_key:=F_law_key.binds (ps:=["_law_key_here"]) fun _ _ _ _ _ _ us hl => match us,hl with | [_],_ => rfl
 have m_law_key:=W.mg_of X G h38.a
 have F_law_packed:=h39.F
 have b_law_packed:=F_law_packed.binds (ps:=["_law_item_here"]) fun _ _ _ _ _ _ us hl => match us,hl with | [_],_ => rfl
 have m_law_packed:=W.mg_of X G h39.a
 have F_law_steps:=h40.F
 have b_law_steps:=F_law_steps.binds (ps:=["_law_item_here"]) fun _ _ _ _ _ _ us hl => match us,hl with | [_],_ => rfl
 have m_law_steps:=W.mg_of X G h40.a
 have F_law_rest:=h41.F
 have b_law_rest:=F_law_rest.binds (ps:=["_law_item_here"]) fun _ _ _ _ _ _ us hl => match us,hl with | [_],_ => rfl
 have m_law_rest:=W.mg_of X G h41.a
 have F_law_spans:=h42.F
 have b_law_spans:=F_law_spans.binds (ps:=["_law_item_here","_law_place","_law_path"]) fun _ _ _ _ _ _ us hl => match us,hl with | [_,_,_],_ => rfl
 have m_law_spans:=W.mg_of X G h42.a
 have F_law:=h43.F
 have d_init:=J_init.binds (ps:=["self","source","at","end"]) fun _ _ _ _ _ _ us hl => match us,hl with | [_,_,_,_],_ => rfl
 have M_init:Meth K C "__init__" g1:=⟨mj1,ij1,J_init.kp⟩
 have d_next_byte:=J_next_byte.binds (ps:=["self"]) fun _ _ _ _ _ _ us hl => match us,hl with | [_],_ => rfl
 have M_next_byte:Meth K C "next_byte" g2:=⟨mj2,ij2,J_next_byte.kp⟩
 have d_must:=J_must.binds (ps:=["self","right"]) fun _ _ _ _ _ _ us hl => match us,hl with | [_,_],_ => rfl
 have M_must:Meth K C "must" g3:=⟨mj3,ij3,J_must.kp⟩
 have d_next_long:=J_next_long.binds (ps:=["self","most"]) fun _ _ _ _ _ _ us hl => match us,hl with | [_,_],_ => rfl
 have M_next_long:Meth K C "next_long" g4:=⟨mj4,ij4,J_next_long.kp⟩
 have d_enter_room:=J_enter_room.binds (ps:=["self"]) fun _ _ _ _ _ _ us hl => match us,hl with | [_],_ => rfl
 have M_enter_room:Meth K C "enter_room" g5:=⟨mj5,ij5,J_enter_room.kp⟩
 have d_leave_room:=J_leave_room.binds (ps:=["self","around"]) fun _ _ _ _ _ _ us hl => match us,hl with | [_,_],_ => rfl
 have M_leave_room:Meth K C "leave_room" g6:=⟨mj6,ij6,J_leave_room.kp⟩
 have m:Bn mg:=⟨W.mg_none_of X G z_len,W.mg_none_of X G z_ord,W.mg_none_of X G z_max,W.mg_none_of X G z_sorted,W.mg_none_of X G z_isinstance,W.mg_none_of X G z_tuple,W.mg_none_of X G z_list,W.mg_none_of X G z_set,W.mg_none_of X G z_int,W.mg_none_of X G z_str,W.mg_none_of X G z_bool,W.mg_none_of X G z_range,W.mg_none_of X G z_zip,W.mg_none_of X G z_reversed,W.mg_none_of X G z_enumerate,W.mg_none_of X G z_sum⟩
 have c:Cn mg:=⟨⟨_,W.mg_of X G y_LETTERS⟩,⟨_,W.mg_of X G y_SIGNS⟩,⟨_,W.mg_of X G y_GREATEST_WHOLE⟩,⟨_,W.mg_of X G y_GREATEST_NUMBER⟩,⟨_,W.mg_of X G y_LONGEST_TEXT⟩,⟨_,W.mg_of X G y_LONGEST_NAME⟩,⟨_,W.mg_of X G y_DEEPEST⟩,⟨_,W.mg_of X G y_GREATEST_SIZE⟩⟩
 have cl:Cls K C:=⟨pg,hd,po,sa⟩
 have co:RdOk K C:=⟨cl,n1,n2,n3⟩
 have x_BELOW:=W.mg_of X G aBe
 have bo:BelowOk K w aB:=⟨⟨⟨esB,nB,lBe,kBe⟩⟩,fun s hs => match s,hs with
  | 0,_ => ⟨_,bRw,rfl⟩
  | 1,_ => ⟨_,bMp,⟨_,rfl⟩⟩
  | 2,_ => ⟨_,bRc,⟨_,rfl⟩⟩⟩
 have so:Ub K aS:=⟨⟨_,_,_,lSo,rfl,rfl,rfl,(sz 6),.cons ⟨_,rfl⟩ (.cons ⟨_,rfl⟩ (.cons ⟨_,rfl⟩ (.cons ⟨_,rfl⟩ (.cons ⟨_,rfl⟩ (.cons ⟨_,rfl⟩ .nil)))))⟩⟩
 have x_SORTS:=W.mg_of X G aSo
 have x_STEPS:=W.mg_of X G aSt
 have st:StepsOk K w aT:=⟨⟨⟨esT,nT,lSt,kSt⟩⟩,fun s => match s with
  | .at _ => ⟨_,bR,⟨_,rfl⟩⟩
  | .key _ => ⟨_,bK,⟨_,rfl⟩⟩
  | .field _ => ⟨_,bF,⟨_,rfl⟩⟩
  | .arm _ => ⟨_,bA,⟨_,rfl⟩⟩⟩
 obtain ⟨oc,od,kV,doc,pm,an,cdv,ct,osl,rfl,lk,hcd⟩:=F_law.ex
 refine ⟨W.fnOf "law" "law" (defArgs s_law) (defBody s_law) (Zk s_law) .none kV doc pm an cdv ct,fun s v => .of_eq rfl,fun base _ _ => ?_⟩
 have g_bl:Fn l.prog w K mg base 1 "behind_long" ["file","at"] (spBL K):=⟨_,_,ok_bl F_behind_long,b_behind_long,F_behind_long.kp,m_behind_long⟩
 have g_la:Fn l.prog w K mg base 2 "long_at" ["file","at"] (spLA K):=⟨_,_,ok_la F_long_at m g_bl,b_long_at,F_long_at.kp,m_long_at⟩
 have g_bi:Fn l.prog w K mg base 3 "behind_item" ["file","at"] (spBI K):=⟨_,_,ok_bi F_behind_item so x_SORTS g_bl g_la,b_behind_item,F_behind_item.kp,m_behind_item⟩
 have g_blb:Fn l.prog w K mg base 3 "behind_label" ["file","at","sort"] (spBLb K):=⟨_,_,ok_behind_label F_behind_label g_bl g_la,b_behind_label,F_behind_label.kp,m_behind_label⟩
 have g_lat:Fn l.prog w K mg base 4 "label_at" ["file","at","sort"] (spLbA K):=⟨_,_,ok_label_at F_label_at m g_bl g_la g_blb,b_label_at,F_label_at.kp,m_label_at⟩
 have g_cod:Fn l.prog w K mg base 1 "codes_of" ["name"] (spCo K):=⟨_,_,ok_codes_of F_codes_of m,b_codes_of,F_codes_of.kp,m_codes_of⟩
 have g_arm:Fn l.prog w K mg base 3 "arm_part" ["file","at"] (spAP K):=⟨_,_,ok_arm_part F_arm_part g_bl g_la,b_arm_part,F_arm_part.kp,m_arm_part⟩
 have g_rp:Fn l.prog w K mg base 5 "room_parts" ["file","at"] (spRP K):=⟨_,_,ok_room_parts F_room_parts m so x_SORTS g_bl g_la g_bi g_blb g_lat,b_room_parts,F_room_parts.kp,m_room_parts⟩
 have g_plb:Fn l.prog w K mg base 6 "place_behind" ["file","at","step"] (spPB K):=⟨_,_,ok_place_behind F_place_behind so x_SORTS st x_STEPS g_rp g_cod g_arm,b_place_behind,F_place_behind.kp,m_place_behind⟩
 have g_sa:Fn l.prog w K mg base 7 "span_at" ["file","path"] (spSA K):=⟨_,_,ok_span_at F_span_at m g_plb g_bi,b_span_at,F_span_at.kp,m_span_at⟩
 have g_long:Fn l.prog w K mg base 1 "long_of" ["n"] spLong:=⟨_,_,ok_long F_long_of m,b_long_of,F_long_of.kp,m_long_of⟩
 have g_pby:Fn l.prog w K mg base 1 "pack_bytes" ["backwards","codes"] (spBytes K):=⟨_,_,ok_pack_bytes F_pack_bytes m,b_pack_bytes,F_pack_bytes.kp,m_pack_bytes⟩
 have g_psi:Fn l.prog w K mg base 2 "pack_signs" ["backwards","text"] spSigns:=⟨_,_,ok_pack_signs F_pack_signs m g_pby g_long,b_pack_signs,F_pack_signs.kp,m_pack_signs⟩
 have g_pla:Fn l.prog w K mg base 3 "pack_label" ["backwards","sort","part"] (spLabel K):=⟨_,_,ok_pack_label F_pack_label g_pby g_long g_psi,b_pack_label,F_pack_label.kp,m_pack_label⟩
 have g_fol:Fn l.prog w K mg base 1 "folded" ["n"] spFold:=⟨_,_,ok_folded F_folded,b_folded,F_folded.kp,m_folded⟩
 have g_pit:Fn l.prog w K mg base (14 + 5) "pack_item" ["backwards","item"] (spPack K (14 + 1)):=⟨_,_,ok_pack_item F_pack_item m so x_SORTS b_pack_item m_pack_item g_pby g_long g_psi g_pla g_fol 15,b_pack_item,F_pack_item.kp,m_pack_item⟩
 have g_pac:Fn l.prog w K mg base 20 "packed" ["item"] (spPacked K 14):=⟨_,_,ok_packed F_packed m g_pit,b_packed,F_packed.kp,m_packed⟩
 have r_nb:MFn l.prog w K mg base 1 C "next_byte" ["self"] (spNByte K C):=⟨_,_,cl,M_next_byte,ok_nbyte J_next_byte co,d_next_byte⟩
 have r_mu:MFn l.prog w K mg base 1 C "must" ["self","right"] spMust:=⟨_,_,cl,M_must,ok_must J_must,d_must⟩
 have r_nl:MFn l.prog w K mg base 2 C "next_long" ["self","most"] (spNLong K C):=⟨_,_,cl,M_next_long,ok_nlong J_next_long co r_nb r_mu,d_next_long⟩
 have r_en:MFn l.prog w K mg base 3 C "enter_room" ["self"] (spEnter K C):=⟨_,_,cl,M_enter_room,ok_enter J_enter_room co c r_nl r_mu,d_enter_room⟩
 have r_le:MFn l.prog w K mg base 1 C "leave_room" ["self","around"] (spLeave K C):=⟨_,_,cl,M_leave_room,ok_leave J_leave_room co,d_leave_room⟩
 have r_mk:CFn l.prog w K mg base 1 C "Reader" ["self","source","at","end"] (spInit K C):=⟨_,_,⟨mk,mj1,ij1,kc⟩,ok_init J_init co,d_init,W.mg_of X G aC⟩
 have g_unf:Fn l.prog w K mg base 1 "unfolded" ["n"] spUnf:=⟨_,_,ok_unfolded F_unfolded,b_unfolded,F_unfolded.kp,m_unfolded⟩
 have g_nsi:Fn l.prog w K mg base 2 "next_sign" ["reader"] (spSign K C gdC):=⟨_,_,ok_next_sign F_next_sign c r_nb r_mu,b_next_sign,F_next_sign.kp,m_next_sign⟩
 have g_nle:Fn l.prog w K mg base 2 "next_letter" ["reader"] (spSign K C lowC):=⟨_,_,ok_next_letter F_next_letter c r_nb r_mu,b_next_letter,F_next_letter.kp,m_next_letter⟩
 have g_ntx:Fn l.prog w K mg base 3 "next_text" ["reader"] (spNText K C):=⟨_,_,ok_next_text F_next_text m c r_nl g_nsi,b_next_text,F_next_text.kp,m_next_text⟩
 have g_nnu:Fn l.prog w K mg base 3 "next_number" ["reader","last"] (spNNum K C):=⟨_,_,ok_next_number F_next_number c r_nl r_mu,b_next_number,F_next_number.kp,m_next_number⟩
 have g_nke:Fn l.prog w K mg base 3 "next_key" ["reader","last"] (spNKey K C):=⟨_,_,ok_next_key F_next_key m c r_nl r_mu g_nle,b_next_key,F_next_key.kp,m_next_key⟩
 have g_nla:Fn l.prog w K mg base 4 "next_label" ["reader","sort","last"] (spNLabel K C):=⟨_,_,ok_next_label F_next_label g_nnu g_nke,b_next_label,F_next_label.kp,m_next_label⟩
 have g_nit:Fn l.prog w K mg base (14 + 6) "next_item" ["reader","deep"] (spNItem K C (14 + 1)):=⟨_,_,ok_next_item F_next_item m c co so x_SORTS bo x_BELOW b_next_item m_next_item r_nb r_mu r_nl r_en r_le g_unf g_ntx g_nnu g_nla 15,b_next_item,F_next_item.kp,m_next_item⟩
 have g_btw:Fn l.prog w K mg base (14 + 7) "unpacked_between" ["file","begin","end"] (spBetween K 14):=⟨_,_,ok_between F_unpacked_between co r_mk g_nit,b_unpacked_between,F_unpacked_between.kp,m_unpacked_between⟩
 have g_llo:Fn l.prog w K mg base 1 "_law_long" ["_law_n"] spLong:=⟨_,_,ok_llong F_law_long m,b_law_long,F_law_long.kp,m_law_long⟩
 have g_lke:Fn l.prog w K mg base 2 "_law_key" ["_law_key_here"] (spKey K):=⟨_,_,ok_law_key F_law_key m g_llo,b_law_key,F_law_key.kp,m_law_key⟩
 have g_lpa:Fn l.prog w K mg base 18 "_law_packed" ["_law_item_here"] (spLPack K (14 + 1)):=⟨_,_,ok_law_packed F_law_packed m b_law_packed m_law_packed g_llo g_lke 15,b_law_packed,F_law_packed.kp,m_law_packed⟩
 have gf:Fn l.prog w K mg base 1 "_law_feed" ["_law_script","_law_k"] (spFeed K):=⟨_,_,ok_feed F_law_feed m,b_law_feed,F_law_feed.kp,m_law_feed⟩
 have gr:Fn l.prog w K mg base 1 "_law_draw" ["_law_feed_here","_law_many"] spDraw:=⟨_,_,ok_draw F_law_draw,b_law_draw,F_law_draw.kp,m_law_draw⟩
 have gn:Fn l.prog w K mg base 2 "_law_name" ["_law_feed_here"] (spStrD V6):=⟨_,_,ok_name F_law_name m gr,b_law_name,F_law_name.kp,m_law_name⟩
 have gt:Fn l.prog w K mg base 2 "_law_text" ["_law_feed_here"] (spStrD textOk):=⟨_,_,ok_text F_law_text m gr,b_law_text,F_law_text.kp,m_law_text⟩
 have gu:Fn l.prog w K mg base 2 "_law_number" ["_law_feed_here"] (spIntD fun n => 1 ≤ n∧n ≤ 999):=⟨_,_,ok_number F_law_number m gr,b_law_number,F_law_number.kp,m_law_number⟩
 have gw:Fn l.prog w K mg base 2 "_law_whole" ["_law_feed_here"] (spIntD fun n => -1000000000000000000 ≤ n∧n ≤ 1000000000000000000):=⟨_,_,ok_whole F_law_whole m gr,b_law_whole,F_law_whole.kp,m_law_whole⟩
 have git:Fn l.prog w K mg base 7 "_law_item" ["_law_feed_here","_law_deep"] (fun vs H Q E => ∃ d,d ≤ 5∧spI K Gd d vs H Q E) :=
  ⟨_,_,Yy.any (C:=fun d => d ≤ 5) fun d hd => (ok_item F_law_item m b_law_item m_law_item gr gn gt gu gw d).mono (by omega),b_law_item,F_law_item.kp,m_law_item⟩
 have gwr:Fn l.prog w K mg base 1 "_law_wrapped" ["_law_item_here","_law_word","_law_many"] (spWrapped K):=⟨_,_,ok_wrapped F_law_wrapped m,b_law_wrapped,F_law_wrapped.kp,m_law_wrapped⟩
 have g_ia:Fn l.prog w K mg base 22 "item_at" ["file","path"] (spIA K 14):=⟨_,_,ok_item_at F_item_at g_sa g_btw,b_item_at,F_item_at.kp,m_item_at⟩
 have g_par:Fn l.prog w K mg base 1 "_law_parts" ["_law_item_here"] (spParts K):=⟨_,_,ok_law_parts F_law_parts m,b_law_parts,F_law_parts.kp,m_law_parts⟩
 have g_stp:Fn l.prog w K mg base 1 "_law_steps" ["_law_item_here"] (spSteps K):=⟨_,_,ok_law_steps F_law_steps m,b_law_steps,F_law_steps.kp,m_law_steps⟩
 have g_rst:Fn l.prog w K mg base 20 "_law_rest" ["_law_item_here"] (spRest K):=⟨_,_,ok_law_rest F_law_rest m g_par g_stp g_lpa,b_law_rest,F_law_rest.kp,m_law_rest⟩
 have g_spn:Fn l.prog w K mg base 36 "_law_spans" ["_law_item_here","_law_place","_law_path"] (spSpans K (14 + 1)):=⟨_,_,ok_law_spans F_law_spans m b_law_spans m_law_spans g_lpa g_rst g_par g_stp 15,b_law_spans,F_law_spans.kp,m_law_spans⟩
 exact ok_law F_law m gf gr git gwr g_lpa g_spn g_pac g_sa g_ia
theorem walk {l:W.OpenLaw} {q:Program} {loose:List Str} {XP:(Str→Option Value)→Heap→Prop} {YP:World→Heap→Prop} {d:DefRec} {K:Params→W.Frag} (hn:l.most = some 63) (hdf:d.params.defaults = [])
  (hY:∀ (w:World) (h:Heap),YP w h→(K w.params).In h)
  (F:∀ (w:World) (mg:Str→Option Value) (fa:Addr) (h:Heap),(K w.params).In h→h.Ns mainGlobals mg→mg d.name = some (.ref fa) →
   ∃ fd:FuncData,(∀ (s:Shared) (u:Value),BindsTo s fd ⟨[u],[]⟩ [("_law_script",u)])∧∀ base:Heap,(K w.params).In base→base.Ns mainGlobals mg→Yy l.prog w (K w.params) mg base Um 43 fa fd ["_law_script"] (spLaw (K w.params))) :
  W.WalkO q loose XP YP l.row.toRowW d [] (fun f vs => PySem.call f vs) :=
 L2.walk_of (n:=63) (k:=43) (x:="_law_script") (CX:=fun _ => Um) (sp:=fun w => spLaw (K w.params)) hn (by decide) hdf ⟨rfl,by decide,by decide⟩ hY F (fun _ _ a ns hl _ hS => ⟨a,ns,rfl,hS,hl,fun _ => rfl⟩) fun _ _ _ _ _ z => z
end K06
open PySem PySem.W PyProof.Rows
set_option maxRecDepth 100000 in
set_option maxHeartbeats 0 in
theorem PySem.Challenge.cw_makes_k06_whole_looked_into_holds : PySem.Challenge.rw_makes_k06_whole_looked_into.Holds := by
 w_on; o_law
 refine holds_open (q:=K06.viewK) (loose:=K06.looseK) (XP:=XL K06.viewK []) (YP:=Hook.says (W.kHook K06.heapK K06.asK K06.asK_eq)) (N:=5408)
  K06.leftK (Hook.of (W.kHook K06.heapK K06.asK K06.asK_eq)) (Hook.keeps (W.kHook K06.heapK K06.asK K06.asK_eq)) (fun s e => xl_of s (Bool.and_eq_true_iff.mp e).1)
  XL.keeps (by rfl) (by rfl) (by rfl) (fun s e => recFacts_of (Bool.and_eq_true_iff.mp e).2) (by rfl) (by assumption)
  (by decide +kernel) ⟨rfl,rfl,rfl,rfl,rfl,by decide +kernel⟩ ?hw ?hc
 case hw => w_witness2
 k_fill
 refine K06.walk (l:=PySem.Challenge.rw_makes_k06_whole_looked_into) rfl rfl (fun w h Y => W.kIn_of Y) ?F
 case F =>
  intro w mg fa h KX G hmg
  refine' K06.all_mk KX G hmg ?h1 ?h2 ?h3 ?h4 ?h5 ?h6 ?h7 ?h8 ?h9 ?h10 ?h11 ?h12 ?h13 ?h14 ?h15 ?h16 ?h17 ?h18 ?h19 ?h20 ?h21 ?h22 ?h23 ?h24 ?h25 ?h26 ?h27 ?h28 ?h29 ?h30 ?h31 ?h32 ?h33 ?h34 ?h35 ?h36 ?h37 ?h38 ?h39 ?h40 ?h41 ?h42 ?h43 ?aC ?mj1 ?ij1 ?J1 ?mj2 ?ij2 ?J2 ?mj3 ?ij3 ?J3 ?mj4 ?ij4 ?J4 ?mj5 ?ij5 ?J5 ?mj6 ?ij6 ?J6 ?pg ?hd ?po ?sa ?mk ?kc ?n1 ?n2 ?n3 ?aSo ?lSo ?aSt ?lSt ?kSt ?bR ?bK ?bF ?bA ?aBe ?lBe ?kBe ?bRw ?bMp ?bRc ?y_LETTERS ?y_SIGNS ?y_GREATEST_WHOLE ?y_GREATEST_NUMBER ?y_LONGEST_TEXT ?y_LONGEST_NAME ?y_DEEPEST ?y_GREATEST_SIZE ?z_len ?z_ord ?z_max ?z_sorted ?z_isinstance ?z_tuple ?z_list ?z_set ?z_int ?z_str ?z_bool ?z_range ?z_zip ?z_reversed ?z_enumerate ?z_sum
  (case h1 => exact ⟨by k_is,L2.Ze (by k_is) (by k_is) (by k_is)⟩)
  (case h2 => exact ⟨by k_is,L2.Ze (by k_is) (by k_is) (by k_is)⟩)
  (case h3 => exact ⟨by k_is,L2.Ze (by k_is) (by k_is) (by k_is)⟩)
  (case h4 => exact ⟨by k_is,L2.Ze (by k_is) (by k_is) (by k_is)⟩)
  (case h5 => exact ⟨by k_is,L2.Ze (by k_is) (by k_is) (by k_is)⟩)
  (case h6 => exact ⟨by k_is,L2.Ze (by k_is) (by k_is) (by k_is)⟩)
  (case h7 => exact ⟨by k_is,L2.Ze (by k_is) (by k_is) (by k_is)⟩)
  (case h8 => exact ⟨by k_is,L2.Ze (by k_is) (by k_is) (by k_is)⟩)
  (case h9 => exact ⟨by k_is,L2.Ze (by k_is) (by k_is) (by k_is)⟩)
  (case h10 => exact ⟨by k_is,L2.Ze (by k_is) (by k_is) (by k_is)⟩)
  (case h11 => exact ⟨by k_is,L2.Ze (by k_is) (by k_is) (by k_is)⟩)
  (case h12 => exact ⟨by k_is,L2.Ze (by k_is) (by k_is) (by k_is)⟩)
  (case h13 => exact ⟨by k_is,L2.Ze (by k_is) (by k_is) (by k_is)⟩)
  (case h14 => exact ⟨by k_is,L2.Ze (by k_is) (by k_is) (by k_is)⟩)
  (case h15 => exact ⟨by k_is,L2.Ze (by k_is) (by k_is) (by k_is)⟩)
  (case h16 => exact ⟨by k_is,L2.Ze (by k_is) (by k_is) (by k_is)⟩)
  (case h17 => exact ⟨by k_is,L2.Ze (by k_is) (by k_is) (by k_is)⟩)
  (case h18 => exact ⟨by k_is,L2.Ze (by k_is) (by k_is) (by k_is)⟩)
  (case h19 => exact ⟨by k_is,L2.Ze (by k_is) (by k_is) (by k_is)⟩)
  (case h20 => exact ⟨by k_is,L2.Ze (by k_is) (by k_is) (by k_is)⟩)
  (case h21 => exact ⟨by k_is,L2.Ze (by k_is) (by k_is) (by k_is)⟩)
  (case h22 => exact ⟨by k_is,L2.Ze (by k_is) (by k_is) (by k_is)⟩)
  (case h23 => exact ⟨by k_is,L2.Ze (by k_is) (by k_is) (by k_is)⟩)
  (case h24 => exact ⟨by k_is,L2.Ze (by k_is) (by k_is) (by k_is)⟩)
  (case h25 => exact ⟨by k_is,L2.Ze (by k_is) (by k_is) (by k_is)⟩)
  (case h26 => exact ⟨by k_is,L2.Ze (by k_is) (by k_is) (by k_is)⟩)
  (case h27 => exact ⟨by k_is,L2.Ze (by k_is) (by k_is) (by k_is)⟩)
  (case h28 => exact ⟨by k_is,L2.Ze (by k_is) (by k_is) (by k_is)⟩)
  (case h29 => exact ⟨by k_is,L2.Ze (by k_is) (by k_is) (by k_is)⟩)
  (case h30 => exact ⟨by k_is,L2.Ze (by k_is) (by k_is) (by k_is)⟩)
  (case h31 => exact ⟨by k_is,L2.Ze (by k_is) (by k_is) (by k_is)⟩)
  (case h32 => exact ⟨by k_is,L2.Ze (by k_is) (by k_is) (by k_is)⟩)
  (case h33 => exact ⟨by k_is,L2.Ze (by k_is) (by k_is) (by k_is)⟩)
  (case h34 => exact ⟨by k_is,L2.Ze (by k_is) (by k_is) (by k_is)⟩)
  (case h35 => exact ⟨by k_is,L2.Ze (by k_is) (by k_is) (by k_is)⟩)
  (case h36 => exact ⟨by k_is,L2.Ze (by k_is) (by k_is) (by k_is)⟩)
  (case h37 => exact ⟨by k_is,L2.Ze (by k_is) (by k_is) (by k_is)⟩)
  (case h38 => exact ⟨by k_is,L2.Ze (by k_is) (by k_is) (by k_is)⟩)
  (case h39 => exact ⟨by k_is,L2.Ze (by k_is) (by k_is) (by k_is)⟩)
  (case h40 => exact ⟨by k_is,L2.Ze (by k_is) (by k_is) (by k_is)⟩)
  (case h41 => exact ⟨by k_is,L2.Ze (by k_is) (by k_is) (by k_is)⟩)
  (case h42 => exact ⟨by k_is,L2.Ze (by k_is) (by k_is) (by k_is)⟩)
  (case h43 => exact ⟨by k_is,L2.Ze (by k_is) (by k_is) (by k_is)⟩)
  (case aC => k_is)
  (case mj1 => k_is); (case ij1 => k_is); (case J1 => exact L2.Ze (by k_is) (by k_is) (by k_is))
  (case mj2 => k_is); (case ij2 => k_is); (case J2 => exact L2.Ze (by k_is) (by k_is) (by k_is))
  (case mj3 => k_is); (case ij3 => k_is); (case J3 => exact L2.Ze (by k_is) (by k_is) (by k_is))
  (case mj4 => k_is); (case ij4 => k_is); (case J4 => exact L2.Ze (by k_is) (by k_is) (by k_is))
  (case mj5 => k_is); (case ij5 => k_is); (case J5 => exact L2.Ze (by k_is) (by k_is) (by k_is))
  (case mj6 => k_is); (case ij6 => k_is); (case J6 => exact L2.Ze (by k_is) (by k_is) (by k_is))
  (case pg => k_is); (case hd => k_is); (case po => k_is); (case sa => k_is); (case mk => k_is); (case kc => k_is); (case n1 => k_is); (case n2 => k_is); (case n3 => k_is); (case aBe => k_is); (case lBe => k_is)
  (case kBe => k_keys); (case bRw => k_is); (case bMp => k_is); (case bRc => k_is)
  (case y_LETTERS => k_is); (case y_SIGNS => k_is); (case y_GREATEST_WHOLE => k_is); (case y_GREATEST_NUMBER => k_is); (case y_LONGEST_TEXT => k_is); (case y_LONGEST_NAME => k_is); (case y_DEEPEST => k_is); (case y_GREATEST_SIZE => k_is)
  (case aSo => k_is); (case lSo => k_is); (case aSt => k_is); (case lSt => k_is); (case kSt => k_keys); (case bR => k_is); (case bK => k_is); (case bF => k_is); (case bA => k_is)
  (case z_len => k_is); (case z_ord => k_is); (case z_max => k_is); (case z_sorted => k_is); (case z_isinstance => k_is); (case z_tuple => k_is); (case z_list => k_is); (case z_set => k_is); (case z_int => k_is); (case z_str => k_is); (case z_bool => k_is); (case z_range => k_is); (case z_zip => k_is); (case z_reversed => k_is); (case z_enumerate => k_is); (case z_sum => k_is)
