import PyProof.Rows.All
import Wide.All
import OpenK.AllK
import Wide.FinOn
import Lean
import PyProof.EqAt
import PyProof.EqKinds
import PyProof.NeKinds
import PyProof.TupleCall
import PyProof.Rows.SetFrom
import PyProof.CollectWalk
import PyProof.DictIter
import PyProof.Rows.SortShell
import KE.KDictSum
import PyProof.Rows.SortStr
import PyProof.ZipIter
import KE.KItemsList
import PyProof.Rows.SumAny
import PyProof.Rows.StrJoin2
import PyProof.Rows.ZipGen
import PyProof.ConsumeWalk
import PyProof.FString5
import PyProof.StrOps2
import PyProof.StrWalks
import PyProof.FactsAll.dict
import PyProof.TupleOps
import KE.KRevIter
import PyProof.ListNew
import PyProof.TupleOfGen
import PyProof.Rows.SeqMore
import PyProof.MeetsSeq2
import PyProof.FactsAll.tuple
import PyProof.FactsAll.list
import OpenK.KTop
import KE.KIsAll
import PyProof.Draws
import PyProof.EnumMake
import PyProof.EnumFor
import PyProof.AutoSeq1
import PyProof.ListRange
import PyProof.StationsW
import PyProof.RulesAs
import PyProof.ExcClass2
import PyProof.Ns1
import PyProof.NsCount
import PyProof.Slots
import PyProof.ExcArgs
import OpenK.KDescr
import OpenK.KMake
import PyProof.InstStoreFacts
import PyProof.ExcBaseAll.ValueError
import OpenK.KOwn
import PyProof.NsDelKeeps
import PySem.Challenge.RW_makes_k10_numbers_beyond_a_bundle
set_option Elab.async false
set_option linter.all false
set_option maxRecDepth 100000
namespace L2
open PySem PySem.Spec PyProof.Rows
def inClass (s : Stmt) (j : Nat) : Stmt := match s with
  | .ClassDef _ _ _ body _ _ _ _ _ _ _ => body.getD j (.Pass ⟨0, 0, 0, 0⟩)
  | _ => .Pass ⟨0, 0, 0, 0⟩
def defArgs (s : Stmt) : Arguments := match s with
  | .FunctionDef _ a _ _ _ _ _ _ _ _ => a
  | _ => { posonlyargs := [], args := [], vararg := none, kwonlyargs := [], kw_defaults := [], kwarg := none, defaults := [] }
def defBody (s : Stmt) : List Stmt := match s with
  | .FunctionDef _ _ b _ _ _ _ _ _ _ => b
  | _ => []
def defScope (s : Stmt) : Scope := match s with
  | .FunctionDef _ _ _ _ _ _ sc _ _ _ => sc
  | _ => { kind := .function, names := [], isGenerator := false, isCoroutine := false }
end L2
namespace K10
open PySem PySem.Spec PyProof.Rows
def top (i : Nat) : Stmt := PySem.Challenge.pw_makes_k10_numbers_beyond_a_bundle.main.body.getD i (.Pass ⟨0, 0, 0, 0⟩)
end K10
namespace L2
open PySem PySem.W PySem.Calls PyProof.Rows
section
variable {tb : String → Option Builtin} {p : Program} {w : World} {m : Nat} {a : Option Value}
def runT (tb : String → Option Builtin) (p : Program) (w : World) (m : Nat) (a : Option Value) : Nat → SharedT → Thread → Option SharedT
  | 0, _, _ => none
  | k + 1, s, t => bif through t then some s else bif stepOk m a t then (match stepT (denote tb) p w s t with | some (s', t') => runT tb p w m a k s' t' | none => none) else none
theorem runT_of : ∀ {k : Nat} {s s' : SharedT} {t : Thread}, runT tb p w m a k s t = some s' → topRun tb p w m a k s.abs t = some s'.abs
  | 0, _, _, _, h => by cases h
  | k + 1, s, s', t, h => by
    unfold runT at h
    unfold topRun
    cases ht : through t with
    | true => rw [ht] at h; cases h; rfl
    | false =>
      rw [ht] at h
      cases hk : stepOk m a t with
      | false => rw [hk] at h; cases h
      | true =>
        rw [hk] at h
        cases hs : stepT (denote tb) p w s t with
        | none => rw [hs] at h; cases h
        | some r =>
          obtain ⟨s₂, t₂⟩ := r
          rw [hs] at h
          rw [stepT_spec hs]
          exact runT_of h
end
def mkT : List Obj → Nat → BT → BT
  | [], _, t => t
  | o :: l, i, t => mkT l (i + 1) (t.ins i o)
noncomputable abbrev boot0 (w : World) (os : OsState) : Shared := ⟨boot_heap w.params, Array.mk [], boot_drawn, boot_toks, os⟩
noncomputable abbrev bootT (w : World) (os : OsState) : SharedT := ⟨mkT (boot_heap w.params).objs.toList 0 .nil, (boot_heap w.params).objs.size, (boot_heap w.params).life, Array.mk [], boot_drawn, boot_toks, os⟩
theorem boot_abs (w : World) (os : OsState) : (bootT w os).abs = boot0 w os := by kernel_rfl
noncomputable abbrev goT (p : Program) (N : Nat) (w : World) (os : OsState) : Option SharedT := runT treeTable p w (boot_heap w.params).objs.size ((boot_heap w.params).nsMap mainGlobals "__annotations__") N (bootT w os) (topStub p)
noncomputable abbrev chkT (p : Program) (w : World) (s : Shared) : Bool := staticsOk (importedModules p.main.body) (boot_heap w.params) s.heap && namesBound p s.heap && gensDone s && laidKept (boot_heap w.params) s.heap
theorem ns_ok (w : World) : ((boot_heap w.params).isNs mainGlobals && (Array.mk [] : Array GenState).size == 0) = true := by kernel_rfl
theorem map_abs {α : Type _} {o : Option SharedT} {f : Shared → α} {r : α} (h : (o.map fun s => f s.abs) = some r) : ∃ s, o = some s ∧ f s.abs = r := by
  obtain ⟨s, e, q⟩ := Option.map_eq_some_iff.mp h
  exact ⟨s, e, q⟩
theorem top_of {α β : Type} {p : Program} {N : Nat} {w : World} {os : OsState} {f : Shared → α} {g : Shared → β} {x : α} {y : β} (h1 : ((goT p N w os).map fun s => chkT p w s.abs) = some true)
    (h2 : ((goT p N w os).map fun s => f s.abs) = some x) (h3 : ((goT p N w os).map fun s => g s.abs) = some y) :
    (topFrom treeTable p w N (boot0 w os)).map (fun s => (f s, g s)) = some (x, y) := by
  obtain ⟨s, e, c⟩ := map_abs h1
  obtain ⟨s2, e2, c2⟩ := map_abs h2
  obtain ⟨s3, e3, c3⟩ := map_abs h3
  rw [e] at e2 e3
  cases e2
  cases e3
  have r := runT_of e
  rw [boot_abs] at r
  unfold topFrom
  rw [show ((boot0 w os).heap.isNs mainGlobals && (boot0 w os).gens.size == 0) = true from ns_ok w]
  show Option.map _ (Option.bind (topRun treeTable p w (boot_heap w.params).objs.size ((boot_heap w.params).nsMap mainGlobals "__annotations__") N (boot0 w os) (topStub p)) _) = _
  rw [r]
  show Option.map _ (match chkT p w s.abs with | true => some s.abs | false => none) = _
  rw [c]
  show some (f s.abs, g s.abs) = _
  rw [c2, c3]
end L2
namespace K10
open PySem PySem.Spec PyProof.Rows L2
def viewK : Program := { PySem.Challenge.pw_makes_k10_numbers_beyond_a_bundle with main := { PySem.Challenge.pw_makes_k10_numbers_beyond_a_bundle.main with body := [top 1, top 2, top 3, top 4, top 5, top 6, top 7, top 8, top 9, top 10, top 11, top 13, top 14, top 15, top 16, top 18, top 19, top 20, top 21, top 22, top 23, top 24, top 25, top 26, top 28, top 29, top 30, top 31, top 33, top 34, top 35, top 36, top 37, top 38, top 39, top 40, top 41, top 42, top 43, top 44] } }
def looseK : List Str := ["SORTS_OF_STEPS"]
abbrev en (P : Params) (x : Str) (t : Tok) (v : Value) : DictEntry := ⟨PyData.keyHash P x, .str x t, v⟩
abbrev fo (cls : Value) (nm q : Str) (s : Stmt) (kw doc pm : Value) (an : Option Addr) (cd ct : Value) (sl : Array (Option Value)) : Obj := ⟨cls, none, .func (PySem.W.fnOf nm q (L2.defArgs s) (L2.defBody s) (L2.defScope s) .none kw doc pm an cd ct), sl⟩
noncomputable def heapK : Params → PySem.W.Frag := fun P =>
  (nat_lit 3, ⟨.type "dict", .none, .dict #[en P "__name__" 165 (.str "law_makes_k10_numbers_beyond_a_bundle" 606), en P "__doc__" 166 (.none), en P "__package__" 167 (.none), en P "__loader__" 168 (.builtin "__main__.__loader__#opaque"), en P "__spec__" 169 (.none), en P "__annotations__" 170 (.ref 6), en P "__builtins__" 171 (.ref 4), en P "__file__" 173 (.str "/claim/cut.py" 172), en P "__cached__" 174 (.none), en P "MakeError" 206 (.ref 24), en P "BadByte" 231 (.ref 44), en P "NoPlace" 256 (.ref 63), en P "BadText" 281 (.ref 82), en P "BadItem" 306 (.ref 101), en P "BadDeed" 331 (.ref 120), en P "NoTable" 360 (.ref 139), en P "NoMove" 385 (.ref 158), en P "NoFile" 410 (.ref 177), en P "NoValue" 426 (.ref 189), en P "NoRow" 442 (.ref 201), en P "long_of" 452 (.ref 210), en P "behind_long" 460 (.ref 217), en P "long_at" 470 (.ref 224), en P "SORTS" 477 (.ref 225), en P "SORTS_OF_STEPS" 492 (.ref 226), en P "span_at" 503 (.ref 233), en P "place_behind" 517 (.ref 240), en P "codes_of" 523 (.ref 245), en P "arm_part" 531 (.ref 252), en P "room_parts" 545 (.ref 259), en P "behind_label" 554 (.ref 266), en P "label_at" 563 (.ref 273), en P "behind_item" 572 (.ref 280), en P "bundled" 583 (.ref 287), en P "nth" 592 (.ref 294), en P "cut" 598 (.ref 299), en P "bundle_of" 605 (.ref 306), en P "_law_feed" 616 (.ref 313), en P "_law_draw" 626 (.ref 320), en P "_law_name" 632 (.ref 325), en P "_law_number" 640 (.ref 332), en P "_law_whole" 649 (.ref 339), en P "_law_text" 655 (.ref 344), en P "_law_item" 661 (.ref 349), en P "_law_long" 669 (.ref 356), en P "_law_key" 675 (.ref 361), en P "_law_packed" 684 (.ref 368), en P "_law_word" 695 (.ref 375), en P "law" 701 (.ref 380)] 49, #[]⟩) ::
  (nat_lit 23, ⟨.type "dict", .none, .dict #[en P "__module__" 196 (.str "makes.errors" 187), en P "__firstlineno__" 200 (.int 2 199), en P "__static_attributes__" 201 (.ref 22), en P "__weakref__" 203 (.ref 25), en P "__doc__" 204 (.none)] 3, #[]⟩) ::
  (nat_lit 24, ⟨.type "type", .none, .cls { name := "MakeError", bases := [.type "ValueError"], mro := [.ref 24, .type "ValueError", .type "Exception", .type "BaseException", .type "object"], ns := 23, qualname := "MakeError", subclasses := [.ref 44, .ref 63, .ref 82, .ref 101, .ref 120, .ref 139, .ref 158, .ref 177, .ref 189, .ref 201] }, #[.some (.ref 15), .none, .some (.str "MakeError" 189), .some (.str "MakeError" 197), .some (.builtin "ValueError.__new__"), .some (.bool Bool.true)]⟩) ::
  (nat_lit 44, ⟨.type "type", .none, .cls { name := "BadByte", bases := [.ref 24], mro := [.ref 44, .ref 24, .type "ValueError", .type "Exception", .type "BaseException", .type "object"], ns := 43, qualname := "BadByte" }, #[.some (.ref 28), .none, .some (.str "BadByte" 207), .some (.str "BadByte" 215), .some (.builtin "ValueError.__new__"), .some (.bool Bool.true)]⟩) ::
  (nat_lit 59, ⟨.type "code", .none, .fields #[.str "__init__" 244, .str "NoPlace.__init__" 245, .str "/claim/cut.py" 246, .int 10 0, .int 2 0, .int 0 0, .int 0 0, .int 3 0, .ref 54, .bool Bool.true, .int 181 0, .ref 55, .none, .ref 56, .ref 57, .ref 58, .int 249 0, .int 10 0, .str "/claim/cut.py" 250], #[]⟩) ::
  (nat_lit 60, fo (.type "function") "__init__" "NoPlace.__init__" (inClass (top 3) 0) (.none) (.none) (.str "makes.errors" 187) (.none) (.ref 59) (.none) #[]) ::
  (nat_lit 62, ⟨.type "dict", .none, .dict #[en P "__module__" 239 (.str "makes.errors" 187), en P "__firstlineno__" 243 (.int 8 242), en P "__init__" 251 (.ref 60), en P "__static_attributes__" 253 (.ref 61), en P "__doc__" 254 (.none)] 2, #[]⟩) ::
  (nat_lit 63, ⟨.type "type", .none, .cls { name := "NoPlace", bases := [.ref 24], mro := [.ref 63, .ref 24, .type "ValueError", .type "Exception", .type "BaseException", .type "object"], ns := 62, qualname := "NoPlace" }, #[.some (.ref 47), .none, .some (.str "NoPlace" 232), .some (.str "NoPlace" 240), .some (.builtin "ValueError.__new__"), .some (.bool Bool.true)]⟩) ::
  (nat_lit 82, ⟨.type "type", .none, .cls { name := "BadText", bases := [.ref 24], mro := [.ref 82, .ref 24, .type "ValueError", .type "Exception", .type "BaseException", .type "object"], ns := 81, qualname := "BadText" }, #[.some (.ref 66), .none, .some (.str "BadText" 257), .some (.str "BadText" 265), .some (.builtin "ValueError.__new__"), .some (.bool Bool.true)]⟩) ::
  (nat_lit 101, ⟨.type "type", .none, .cls { name := "BadItem", bases := [.ref 24], mro := [.ref 101, .ref 24, .type "ValueError", .type "Exception", .type "BaseException", .type "object"], ns := 100, qualname := "BadItem" }, #[.some (.ref 85), .none, .some (.str "BadItem" 282), .some (.str "BadItem" 290), .some (.builtin "ValueError.__new__"), .some (.bool Bool.true)]⟩) ::
  (nat_lit 120, ⟨.type "type", .none, .cls { name := "BadDeed", bases := [.ref 24], mro := [.ref 120, .ref 24, .type "ValueError", .type "Exception", .type "BaseException", .type "object"], ns := 119, qualname := "BadDeed" }, #[.some (.ref 104), .none, .some (.str "BadDeed" 307), .some (.str "BadDeed" 315), .some (.builtin "ValueError.__new__"), .some (.bool Bool.true)]⟩) ::
  (nat_lit 139, ⟨.type "type", .none, .cls { name := "NoTable", bases := [.ref 24], mro := [.ref 139, .ref 24, .type "ValueError", .type "Exception", .type "BaseException", .type "object"], ns := 138, qualname := "NoTable" }, #[.some (.ref 123), .none, .some (.str "NoTable" 332), .some (.str "NoTable" 340), .some (.builtin "ValueError.__new__"), .some (.bool Bool.true)]⟩) ::
  (nat_lit 158, ⟨.type "type", .none, .cls { name := "NoMove", bases := [.ref 24], mro := [.ref 158, .ref 24, .type "ValueError", .type "Exception", .type "BaseException", .type "object"], ns := 157, qualname := "NoMove" }, #[.some (.ref 142), .none, .some (.str "NoMove" 361), .some (.str "NoMove" 369), .some (.builtin "ValueError.__new__"), .some (.bool Bool.true)]⟩) ::
  (nat_lit 177, ⟨.type "type", .none, .cls { name := "NoFile", bases := [.ref 24], mro := [.ref 177, .ref 24, .type "ValueError", .type "Exception", .type "BaseException", .type "object"], ns := 176, qualname := "NoFile" }, #[.some (.ref 161), .none, .some (.str "NoFile" 386), .some (.str "NoFile" 394), .some (.builtin "ValueError.__new__"), .some (.bool Bool.true)]⟩) ::
  (nat_lit 189, ⟨.type "type", .none, .cls { name := "NoValue", bases := [.ref 24], mro := [.ref 189, .ref 24, .type "ValueError", .type "Exception", .type "BaseException", .type "object"], ns := 188, qualname := "NoValue" }, #[.some (.ref 180), .none, .some (.str "NoValue" 411), .some (.str "NoValue" 419), .some (.builtin "ValueError.__new__"), .some (.bool Bool.true)]⟩) ::
  (nat_lit 201, ⟨.type "type", .none, .cls { name := "NoRow", bases := [.ref 24], mro := [.ref 201, .ref 24, .type "ValueError", .type "Exception", .type "BaseException", .type "object"], ns := 200, qualname := "NoRow" }, #[.some (.ref 192), .none, .some (.str "NoRow" 427), .some (.str "NoRow" 435), .some (.builtin "ValueError.__new__"), .some (.bool Bool.true)]⟩) ::
  (nat_lit 209, ⟨.type "code", .none, .fields #[.str "long_of" 445, .str "long_of" 446, .str "/claim/cut.py" 447, .int 43 0, .int 1 0, .int 0 0, .int 0 0, .int 3 0, .ref 204, .bool Bool.true, .int 181 0, .ref 205, .none, .ref 206, .ref 207, .ref 208, .int 450 0, .int 43 0, .str "/claim/cut.py" 451], #[]⟩) ::
  (nat_lit 210, fo (.type "function") "long_of" "long_of" (top 13) (.none) (.none) (.str "makes.longs" 443) (.none) (.ref 209) (.none) #[]) ::
  (nat_lit 216, ⟨.type "code", .none, .fields #[.str "behind_long" 453, .str "behind_long" 454, .str "/claim/cut.py" 455, .int 50 0, .int 2 0, .int 0 0, .int 0 0, .int 3 0, .ref 211, .bool Bool.true, .int 181 0, .ref 212, .none, .ref 213, .ref 214, .ref 215, .int 458 0, .int 50 0, .str "/claim/cut.py" 459], #[]⟩) ::
  (nat_lit 217, fo (.type "function") "behind_long" "behind_long" (top 14) (.none) (.none) (.str "makes.longs" 443) (.none) (.ref 216) (.none) #[]) ::
  (nat_lit 223, ⟨.type "code", .none, .fields #[.str "long_at" 461, .str "long_at" 462, .str "/claim/cut.py" 463, .int 54 0, .int 2 0, .int 0 0, .int 0 0, .int 3 0, .ref 218, .bool Bool.true, .int 181 0, .ref 219, .none, .ref 220, .ref 221, .ref 222, .int 468 0, .int 54 0, .str "/claim/cut.py" 469], #[]⟩) ::
  (nat_lit 224, fo (.type "function") "long_at" "long_at" (top 15) (.none) (.none) (.str "makes.longs" 443) (.none) (.ref 223) (.none) #[]) ::
  (nat_lit 225, ⟨.type "tuple", .none, .seq #[.str "whole" 471, .str "text" 472, .str "row" 473, .str "map" 474, .str "rec" 475, .str "arm" 476], #[]⟩) ::
  (nat_lit 226, ⟨.type "dict", .none, .dict #[en P "at" 480 (.str "row" 481), en P "key" 482 (.str "map" 483), en P "field" 484 (.str "rec" 485), en P "arm" 486 (.str "arm" 487)] 4, #[]⟩) ::
  (nat_lit 232, ⟨.type "code", .none, .fields #[.str "span_at" 493, .str "span_at" 494, .str "/claim/cut.py" 495, .int 62 0, .int 2 0, .int 0 0, .int 0 0, .int 3 0, .ref 227, .bool Bool.true, .int 181 0, .ref 228, .none, .ref 229, .ref 230, .ref 231, .int 501 0, .int 62 0, .str "/claim/cut.py" 502], #[]⟩) ::
  (nat_lit 233, fo (.type "function") "span_at" "span_at" (top 19) (.none) (.none) (.str "makes.looking" 478) (.none) (.ref 232) (.none) #[]) ::
  (nat_lit 239, ⟨.type "code", .none, .fields #[.str "place_behind" 504, .str "place_behind" 505, .str "/claim/cut.py" 506, .int 69 0, .int 3 0, .int 0 0, .int 0 0, .int 3 0, .ref 234, .bool Bool.true, .int 181 0, .ref 235, .none, .ref 236, .ref 237, .ref 238, .int 515 0, .int 69 0, .str "/claim/cut.py" 516], #[]⟩) ::
  (nat_lit 240, fo (.type "function") "place_behind" "place_behind" (top 20) (.none) (.none) (.str "makes.looking" 478) (.none) (.ref 239) (.none) #[]) ::
  (nat_lit 244, ⟨.type "code", .none, .fields #[.str "codes_of" 518, .str "codes_of" 519, .str "/claim/cut.py" 520, .int 79 0, .int 1 0, .int 0 0, .int 0 0, .int 3 0, .ref 241, .bool Bool.true, .int 181 0, .ref 242, .none, .none, .none, .ref 243, .int 521 0, .int 79 0, .str "/claim/cut.py" 522], #[]⟩) ::
  (nat_lit 245, fo (.type "function") "codes_of" "codes_of" (top 21) (.none) (.none) (.str "makes.looking" 478) (.none) (.ref 244) (.none) #[]) ::
  (nat_lit 251, ⟨.type "code", .none, .fields #[.str "arm_part" 524, .str "arm_part" 525, .str "/claim/cut.py" 526, .int 81 0, .int 2 0, .int 0 0, .int 0 0, .int 3 0, .ref 246, .bool Bool.true, .int 181 0, .ref 247, .none, .ref 248, .ref 249, .ref 250, .int 529 0, .int 81 0, .str "/claim/cut.py" 530], #[]⟩) ::
  (nat_lit 252, fo (.type "function") "arm_part" "arm_part" (top 22) (.none) (.none) (.str "makes.looking" 478) (.none) (.ref 251) (.none) #[]) ::
  (nat_lit 258, ⟨.type "code", .none, .fields #[.str "room_parts" 532, .str "room_parts" 533, .str "/claim/cut.py" 534, .int 83 0, .int 2 0, .int 0 0, .int 0 0, .int 3 0, .ref 253, .bool Bool.true, .int 181 0, .ref 254, .none, .ref 255, .ref 256, .ref 257, .int 543 0, .int 83 0, .str "/claim/cut.py" 544], #[]⟩) ::
  (nat_lit 259, fo (.type "function") "room_parts" "room_parts" (top 23) (.none) (.none) (.str "makes.looking" 478) (.none) (.ref 258) (.none) #[]) ::
  (nat_lit 265, ⟨.type "code", .none, .fields #[.str "behind_label" 546, .str "behind_label" 547, .str "/claim/cut.py" 548, .int 94 0, .int 3 0, .int 0 0, .int 0 0, .int 3 0, .ref 260, .bool Bool.true, .int 181 0, .ref 261, .none, .ref 262, .ref 263, .ref 264, .int 552 0, .int 94 0, .str "/claim/cut.py" 553], #[]⟩) ::
  (nat_lit 266, fo (.type "function") "behind_label" "behind_label" (top 24) (.none) (.none) (.str "makes.looking" 478) (.none) (.ref 265) (.none) #[]) ::
  (nat_lit 272, ⟨.type "code", .none, .fields #[.str "label_at" 555, .str "label_at" 556, .str "/claim/cut.py" 557, .int 100 0, .int 3 0, .int 0 0, .int 0 0, .int 3 0, .ref 267, .bool Bool.true, .int 181 0, .ref 268, .none, .ref 269, .ref 270, .ref 271, .int 561 0, .int 100 0, .str "/claim/cut.py" 562], #[]⟩) ::
  (nat_lit 273, fo (.type "function") "label_at" "label_at" (top 25) (.none) (.none) (.str "makes.looking" 478) (.none) (.ref 272) (.none) #[]) ::
  (nat_lit 279, ⟨.type "code", .none, .fields #[.str "behind_item" 564, .str "behind_item" 565, .str "/claim/cut.py" 566, .int 104 0, .int 2 0, .int 0 0, .int 0 0, .int 3 0, .ref 274, .bool Bool.true, .int 181 0, .ref 275, .none, .ref 276, .ref 277, .ref 278, .int 570 0, .int 104 0, .str "/claim/cut.py" 571], #[]⟩) ::
  (nat_lit 280, fo (.type "function") "behind_item" "behind_item" (top 26) (.none) (.none) (.str "makes.looking" 478) (.none) (.ref 279) (.none) #[]) ::
  (nat_lit 286, ⟨.type "code", .none, .fields #[.str "bundled" 575, .str "bundled" 576, .str "/claim/cut.py" 577, .int 112 0, .int 1 0, .int 0 0, .int 0 0, .int 3 0, .ref 281, .bool Bool.true, .int 181 0, .ref 282, .none, .ref 283, .ref 284, .ref 285, .int 581 0, .int 112 0, .str "/claim/cut.py" 582], #[]⟩) ::
  (nat_lit 287, fo (.type "function") "bundled" "bundled" (top 28) (.none) (.none) (.str "makes.bundles" 573) (.none) (.ref 286) (.none) #[]) ::
  (nat_lit 293, ⟨.type "code", .none, .fields #[.str "nth" 584, .str "nth" 585, .str "/claim/cut.py" 586, .int 117 0, .int 2 0, .int 0 0, .int 0 0, .int 3 0, .ref 288, .bool Bool.true, .int 181 0, .ref 289, .none, .ref 290, .ref 291, .ref 292, .int 590 0, .int 117 0, .str "/claim/cut.py" 591], #[]⟩) ::
  (nat_lit 294, fo (.type "function") "nth" "nth" (top 29) (.none) (.none) (.str "makes.bundles" 573) (.none) (.ref 293) (.none) #[]) ::
  (nat_lit 298, ⟨.type "code", .none, .fields #[.str "cut" 593, .str "cut" 594, .str "/claim/cut.py" 595, .int 120 0, .int 3 0, .int 0 0, .int 0 0, .int 3 0, .ref 295, .bool Bool.true, .int 181 0, .ref 296, .none, .none, .none, .ref 297, .int 596 0, .int 120 0, .str "/claim/cut.py" 597], #[]⟩) ::
  (nat_lit 299, fo (.type "function") "cut" "cut" (top 30) (.none) (.none) (.str "makes.bundles" 573) (.none) (.ref 298) (.none) #[]) ::
  (nat_lit 305, ⟨.type "code", .none, .fields #[.str "bundle_of" 599, .str "bundle_of" 600, .str "/claim/cut.py" 601, .int 125 0, .int 1 0, .int 0 0, .int 0 0, .int 3 0, .ref 300, .bool Bool.true, .int 181 0, .ref 301, .none, .ref 302, .ref 303, .ref 304, .int 603 0, .int 125 0, .str "/claim/cut.py" 604], #[]⟩) ::
  (nat_lit 306, fo (.type "function") "bundle_of" "bundle_of" (top 31) (.none) (.none) (.str "makes.bundles" 573) (.none) (.ref 305) (.none) #[]) ::
  (nat_lit 312, ⟨.type "code", .none, .fields #[.str "_law_feed" 608, .str "_law_feed" 609, .str "/claim/cut.py" 610, .int 128 0, .int 2 0, .int 0 0, .int 0 0, .int 3 0, .ref 307, .bool Bool.true, .int 181 0, .ref 308, .none, .ref 309, .ref 310, .ref 311, .int 614 0, .int 128 0, .str "/claim/cut.py" 615], #[]⟩) ::
  (nat_lit 313, fo (.type "function") "_law_feed" "_law_feed" (top 33) (.none) (.none) (.str "law_makes_k10_numbers_beyond_a_bundle" 606) (.none) (.ref 312) (.none) #[]) ::
  (nat_lit 319, ⟨.type "code", .none, .fields #[.str "_law_draw" 617, .str "_law_draw" 618, .str "/claim/cut.py" 619, .int 133 0, .int 2 0, .int 0 0, .int 0 0, .int 3 0, .ref 314, .bool Bool.true, .int 181 0, .ref 315, .none, .ref 316, .ref 317, .ref 318, .int 624 0, .int 133 0, .str "/claim/cut.py" 625], #[]⟩) ::
  (nat_lit 320, fo (.type "function") "_law_draw" "_law_draw" (top 34) (.none) (.none) (.str "law_makes_k10_numbers_beyond_a_bundle" 606) (.none) (.ref 319) (.none) #[]) ::
  (nat_lit 324, ⟨.type "code", .none, .fields #[.str "_law_name" 627, .str "_law_name" 628, .str "/claim/cut.py" 629, .int 143 0, .int 1 0, .int 0 0, .int 0 0, .int 3 0, .ref 321, .bool Bool.true, .int 181 0, .ref 322, .none, .none, .none, .ref 323, .int 630 0, .int 143 0, .str "/claim/cut.py" 631], #[]⟩) ::
  (nat_lit 325, fo (.type "function") "_law_name" "_law_name" (top 35) (.none) (.none) (.str "law_makes_k10_numbers_beyond_a_bundle" 606) (.none) (.ref 324) (.none) #[]) ::
  (nat_lit 331, ⟨.type "code", .none, .fields #[.str "_law_number" 633, .str "_law_number" 634, .str "/claim/cut.py" 635, .int 149 0, .int 1 0, .int 0 0, .int 0 0, .int 3 0, .ref 326, .bool Bool.true, .int 181 0, .ref 327, .none, .ref 328, .ref 329, .ref 330, .int 638 0, .int 149 0, .str "/claim/cut.py" 639], #[]⟩) ::
  (nat_lit 332, fo (.type "function") "_law_number" "_law_number" (top 36) (.none) (.none) (.str "law_makes_k10_numbers_beyond_a_bundle" 606) (.none) (.ref 331) (.none) #[]) ::
  (nat_lit 338, ⟨.type "code", .none, .fields #[.str "_law_whole" 641, .str "_law_whole" 642, .str "/claim/cut.py" 643, .int 154 0, .int 1 0, .int 0 0, .int 0 0, .int 3 0, .ref 333, .bool Bool.true, .int 181 0, .ref 334, .none, .ref 335, .ref 336, .ref 337, .int 647 0, .int 154 0, .str "/claim/cut.py" 648], #[]⟩) ::
  (nat_lit 339, fo (.type "function") "_law_whole" "_law_whole" (top 37) (.none) (.none) (.str "law_makes_k10_numbers_beyond_a_bundle" 606) (.none) (.ref 338) (.none) #[]) ::
  (nat_lit 343, ⟨.type "code", .none, .fields #[.str "_law_text" 650, .str "_law_text" 651, .str "/claim/cut.py" 652, .int 160 0, .int 1 0, .int 0 0, .int 0 0, .int 3 0, .ref 340, .bool Bool.true, .int 181 0, .ref 341, .none, .none, .none, .ref 342, .int 653 0, .int 160 0, .str "/claim/cut.py" 654], #[]⟩) ::
  (nat_lit 344, fo (.type "function") "_law_text" "_law_text" (top 38) (.none) (.none) (.str "law_makes_k10_numbers_beyond_a_bundle" 606) (.none) (.ref 343) (.none) #[]) ::
  (nat_lit 348, ⟨.type "code", .none, .fields #[.str "_law_item" 656, .str "_law_item" 657, .str "/claim/cut.py" 658, .int 169 0, .int 2 0, .int 0 0, .int 0 0, .int 3 0, .ref 345, .bool Bool.true, .int 181 0, .ref 346, .none, .none, .none, .ref 347, .int 659 0, .int 169 0, .str "/claim/cut.py" 660], #[]⟩) ::
  (nat_lit 349, fo (.type "function") "_law_item" "_law_item" (top 39) (.none) (.none) (.str "law_makes_k10_numbers_beyond_a_bundle" 606) (.none) (.ref 348) (.none) #[]) ::
  (nat_lit 355, ⟨.type "code", .none, .fields #[.str "_law_long" 662, .str "_law_long" 663, .str "/claim/cut.py" 664, .int 186 0, .int 1 0, .int 0 0, .int 0 0, .int 3 0, .ref 350, .bool Bool.true, .int 181 0, .ref 351, .none, .ref 352, .ref 353, .ref 354, .int 667 0, .int 186 0, .str "/claim/cut.py" 668], #[]⟩) ::
  (nat_lit 356, fo (.type "function") "_law_long" "_law_long" (top 40) (.none) (.none) (.str "law_makes_k10_numbers_beyond_a_bundle" 606) (.none) (.ref 355) (.none) #[]) ::
  (nat_lit 360, ⟨.type "code", .none, .fields #[.str "_law_key" 670, .str "_law_key" 671, .str "/claim/cut.py" 672, .int 193 0, .int 1 0, .int 0 0, .int 0 0, .int 3 0, .ref 357, .bool Bool.true, .int 181 0, .ref 358, .none, .none, .none, .ref 359, .int 673 0, .int 193 0, .str "/claim/cut.py" 674], #[]⟩) ::
  (nat_lit 361, fo (.type "function") "_law_key" "_law_key" (top 41) (.none) (.none) (.str "law_makes_k10_numbers_beyond_a_bundle" 606) (.none) (.ref 360) (.none) #[]) ::
  (nat_lit 367, ⟨.type "code", .none, .fields #[.str "_law_packed" 676, .str "_law_packed" 677, .str "/claim/cut.py" 678, .int 197 0, .int 1 0, .int 0 0, .int 0 0, .int 3 0, .ref 362, .bool Bool.true, .int 181 0, .ref 363, .none, .ref 364, .ref 365, .ref 366, .int 682 0, .int 197 0, .str "/claim/cut.py" 683], #[]⟩) ::
  (nat_lit 368, fo (.type "function") "_law_packed" "_law_packed" (top 42) (.none) (.none) (.str "law_makes_k10_numbers_beyond_a_bundle" 606) (.none) (.ref 367) (.none) #[]) ::
  (nat_lit 374, ⟨.type "code", .none, .fields #[.str "_law_word" 685, .str "_law_word" 686, .str "/claim/cut.py" 687, .int 211 0, .int 2 0, .int 0 0, .int 0 0, .int 3 0, .ref 369, .bool Bool.true, .int 181 0, .ref 370, .none, .ref 371, .ref 372, .ref 373, .int 693 0, .int 211 0, .str "/claim/cut.py" 694], #[]⟩) ::
  (nat_lit 375, fo (.type "function") "_law_word" "_law_word" (top 43) (.none) (.none) (.str "law_makes_k10_numbers_beyond_a_bundle" 606) (.none) (.ref 374) (.none) #[]) ::
  (nat_lit 379, ⟨.type "code", .none, .fields #[.str "law" 696, .str "law" 697, .str "/claim/cut.py" 698, .int 226 0, .int 1 0, .int 0 0, .int 0 0, .int 3 0, .ref 376, .bool Bool.true, .int 181 0, .ref 377, .none, .none, .none, .ref 378, .int 699 0, .int 226 0, .str "/claim/cut.py" 700], #[]⟩) ::
  (nat_lit 380, fo (.type "function") "law" "law" (top 44) (.none) (.none) (.str "law_makes_k10_numbers_beyond_a_bundle" 606) (.none) (.ref 379) (.none) #[]) ::
  []
def asK : List Addr := [3, 23, 24, 44, 59, 60, 62, 63, 82, 101, 120, 139, 158, 177, 189, 201, 209, 210, 216, 217, 223, 224, 225, 226, 232, 233, 239, 240, 244, 245, 251, 252, 258, 259, 265, 266, 272, 273, 279, 280, 286, 287, 293, 294, 298, 299, 305, 306, 312, 313, 319, 320, 324, 325, 331, 332, 338, 339, 343, 344, 348, 349, 355, 356, 360, 361, 367, 368, 374, 375, 379, 380]
theorem asK_eq (P : Params) : asK = (heapK P).map (·.1) := by kernel_rfl
noncomputable abbrev hookK : PySem.W.Hook := PySem.W.kHook heapK asK asK_eq
abbrev xtK (s : Shared) : Bool := PySem.W.xlAt viewK [] s && PySem.W.recOk (PySem.W.RowW.records PySem.Challenge.rw_makes_k10_numbers_beyond_a_bundle.row.toRowW) s
abbrev LeftAt (w : World) : Prop := (PySem.W.openEnds treeTable PySem.Challenge.pw_makes_k10_numbers_beyond_a_bundle w 7162).map (fun s => (PySem.W.openSeen viewK looseK (importedModules PySem.Challenge.pw_makes_k10_numbers_beyond_a_bundle.main.body) xtK true s, hookK.obs s)) = some (PySem.W.openGood viewK looseK, hookK.val w)
abbrev seenK (s : Shared) := PySem.W.openSeen viewK looseK (importedModules PySem.Challenge.pw_makes_k10_numbers_beyond_a_bundle.main.body) xtK true s
abbrev wK (w : World) (b : Bool) : World := w.withFollow "special-get-raises" b
theorem chkF (w : World) (os : OsState) : ((L2.goT PySem.Challenge.pw_makes_k10_numbers_beyond_a_bundle 7162 (wK w false) os).map fun s => L2.chkT PySem.Challenge.pw_makes_k10_numbers_beyond_a_bundle (wK w false) s.abs) = some true := by kernel_rfl
theorem chkR (w : World) (os : OsState) : ((L2.goT PySem.Challenge.pw_makes_k10_numbers_beyond_a_bundle 7162 (wK w true) os).map fun s => L2.chkT PySem.Challenge.pw_makes_k10_numbers_beyond_a_bundle (wK w true) s.abs) = some true := by kernel_rfl
theorem seenF (w : World) (os : OsState) : ((L2.goT PySem.Challenge.pw_makes_k10_numbers_beyond_a_bundle 7162 (wK w false) os).map fun s => seenK s.abs) = some (PySem.W.openGood viewK looseK) := by kernel_rfl
theorem seenT (w : World) (os : OsState) : ((L2.goT PySem.Challenge.pw_makes_k10_numbers_beyond_a_bundle 7162 (wK w true) os).map fun s => seenK s.abs) = some (PySem.W.openGood viewK looseK) := by kernel_rfl
theorem obsF (w : World) (os : OsState) : ((L2.goT PySem.Challenge.pw_makes_k10_numbers_beyond_a_bundle 7162 (wK w false) os).map fun s => hookK.obs s.abs) = some (hookK.val (wK w false)) := by kernel_rfl
theorem obsT (w : World) (os : OsState) : ((L2.goT PySem.Challenge.pw_makes_k10_numbers_beyond_a_bundle 7162 (wK w true) os).map fun s => hookK.obs s.abs) = some (hookK.val (wK w true)) := by kernel_rfl
theorem left_of (w : World) (h1 : ∀ os, ((L2.goT PySem.Challenge.pw_makes_k10_numbers_beyond_a_bundle 7162 w os).map fun s => L2.chkT PySem.Challenge.pw_makes_k10_numbers_beyond_a_bundle w s.abs) = some true) (h2 : ∀ os, ((L2.goT PySem.Challenge.pw_makes_k10_numbers_beyond_a_bundle 7162 w os).map fun s => seenK s.abs) = some (PySem.W.openGood viewK looseK)) (h3 : ∀ os, ((L2.goT PySem.Challenge.pw_makes_k10_numbers_beyond_a_bundle 7162 w os).map fun s => hookK.obs s.abs) = some (hookK.val w)) : LeftAt w := by
  obtain ⟨⟨hp, g, d, k, os⟩, hs, hv⟩ := Option.map_eq_some_iff.mp (PySem.W.boot_open (p := PySem.Challenge.pw_makes_k10_numbers_beyond_a_bundle) (N := 7162) rfl (by decide) (fun s => rfl) w)
  simp only [Prod.mk.injEq] at hv
  obtain ⟨rfl, rfl, rfl, rfl⟩ := hv
  show Option.map _ (Option.bind (PySem.W.fencedOpening treeTable PySem.Challenge.pw_makes_k10_numbers_beyond_a_bundle w 7162) (PySem.W.topFrom treeTable PySem.Challenge.pw_makes_k10_numbers_beyond_a_bundle w 7162)) = _
  rw [hs]
  exact L2.top_of (h1 os) (h2 os) (h3 os)
theorem leftF (w : World) : LeftAt (w.withFollow "special-get-raises" false) := left_of _ (chkF w) (seenF w) (obsF w)
theorem leftT (w : World) : LeftAt (w.withFollow "special-get-raises" true) := left_of _ (chkR w) (seenT w) (obsT w)
theorem leftK : PySem.W.LeftO PySem.Challenge.pw_makes_k10_numbers_beyond_a_bundle viewK looseK xtK hookK.obs hookK.val 7162 := PySem.W.byRow2 "special-get-raises" leftF leftT
end K10
set_option Elab.async false
set_option linter.all false
set_option maxRecDepth 100000
namespace L2
open PySem PySem.Spec PyProof.Rows
abbrev Key := Sum Int Str
def keyIs : Key → Value → Bool
  | .inl k, v => Value.isInt k v
  | .inr x, v => Value.isStrOf x v
def keyH (w : World) : Key → Int
  | .inl k => hashInt k
  | .inr x => hashStr w x
theorem keyIs_shape : ∀ {k : Key} {v : Value}, keyIs k v = true → (∃ i t, k = Sum.inl i ∧ v = Value.int i t) ∨ (∃ x t, k = Sum.inr x ∧ v = Value.str x t)
  | .inl i, v, h => by
    obtain ⟨t, e⟩ := Value.isInt_shape (k := i) (v := v) h
    exact .inl ⟨i, t, rfl, e⟩
  | .inr x, v, h => by
    obtain ⟨t, e⟩ := Value.isStrOf_shape (x := x) (v := v) h
    exact .inr ⟨x, t, rfl, e⟩
theorem keyIs_int (i : Int) (t : Tok) : keyIs (.inl i) (.int i t) = true := by simp [keyIs, Value.isInt]
theorem keyIs_str (x : Str) (t : Tok) : keyIs (.inr x) (.str x t) = true := by simp [keyIs, Value.isStrOf]
theorem key_ll (a b : Int) : decide ((Sum.inl a : Key) = Sum.inl b) = (a == b) := by
  by_cases e : a = b
  · subst e; simp
  · have h : ¬ (Sum.inl a : Key) = Sum.inl b := fun q => e (Sum.inl.inj q)
    rw [decide_eq_false h]
    exact (beq_eq_false_iff_ne.mpr e).symm
theorem key_rr (a b : Str) : decide ((Sum.inr a : Key) = Sum.inr b) = decide (a = b) := by
  by_cases e : a = b
  · subst e; simp
  · have h : ¬ (Sum.inr a : Key) = Sum.inr b := fun q => e (Sum.inr.inj q)
    rw [decide_eq_false h, decide_eq_false e]
theorem key_lr (a : Int) (b : Str) : decide ((Sum.inl a : Key) = Sum.inr b) = false := decide_eq_false (fun q => nomatch q)
theorem key_rl (a : Str) (b : Int) : decide ((Sum.inr a : Key) = Sum.inl b) = false := decide_eq_false (fun q => nomatch q)
def mixKind (prog : Program) (w : World) : PySem.KeyKind prog w Key where
  is := keyIs
  hash := keyH w
  inj := fun v a b ha hb => by
    rcases keyIs_shape ha with ⟨i, t, rfl, rfl⟩ | ⟨x, t, rfl, rfl⟩
    · rcases keyIs_shape hb with ⟨j, u, rfl, e⟩ | ⟨y, u, rfl, e⟩
      · injection e with e1 _; rw [e1]
      · exact nomatch e
    · rcases keyIs_shape hb with ⟨j, u, rfl, e⟩ | ⟨y, u, rfl, e⟩
      · exact nomatch e
      · injection e with e1 _; rw [e1]
  byValue := fun k v h => by
    rcases keyIs_shape h with ⟨i, t, rfl, rfl⟩ | ⟨x, t, rfl, rfl⟩ <;> rfl
  pyHash := fun hv h => by
    rcases keyIs_shape hv with ⟨i, t, rfl, rfl⟩ | ⟨x, t, rfl, rfl⟩
    · exact wpAny_pyHash_int h
    · exact wpAny_pyHash_str h
  eqBool := fun hu hv h => by
    rcases keyIs_shape hu with ⟨i, t, rfl, rfl⟩ | ⟨x, t, rfl, rfl⟩
    · rcases keyIs_shape hv with ⟨j, u, rfl, rfl⟩ | ⟨y, u, rfl, rfl⟩
      · rw [key_ll] at h; exact wpAny_eqBool_int h
      · rw [key_lr] at h; exact SeqAt.EqAt.int_str i t y u _ _ _ _ h
    · rcases keyIs_shape hv with ⟨j, u, rfl, rfl⟩ | ⟨y, u, rfl, rfl⟩
      · rw [key_rl] at h; exact SeqAt.EqAt.str_int x t j u _ _ _ _ h
      · rw [key_rr] at h; exact wpAny_eqBool_str h
  «strs» := fun k x t v h => by
    rcases keyIs_shape h with ⟨i, u, rfl, e⟩ | ⟨y, u, rfl, e⟩
    · exact nomatch e
    · injection e with e1 _
      subst e1
      cases v <;> rfl
end L2
namespace L2
open PySem PySem.Spec PyProof.Rows
inductive V where
  | non | bl (b : Bool) | int (i : Int) | str (x : Str) | byt (b : Array UInt8) | flt (b : UInt64) | ref (a : Addr) | ty (n : String)
  deriving DecidableEq
def RelV : V → Value → Prop
  | .non, u => u = Value.none
  | .bl b, u => u = Value.bool b
  | .int i, u => ∃ t, u = Value.int i t
  | .str x, u => ∃ t, u = Value.str x t
  | .byt b, u => ∃ t, u = Value.bytes b t
  | .flt b, u => ∃ t, u = Value.float b t
  | .ref a, u => u = Value.ref a
  | .ty n, u => u = Value.type n
abbrev Vals : List V → List Value → Prop := Paired RelV
theorem Vals.length {xs : List V} {us : List Value} (r : Vals xs us) : xs.length = us.length := Paired.length r
theorem Vals.get : ∀ {xs : List V} {us : List Value} {i : Nat} {x : V}, Vals xs us → xs[i]? = some x → ∃ u, us[i]? = some u ∧ RelV x u
  | _, _, _, _, .nil, e => by simp at e
  | _, _, 0, _, .cons r _, e => by simp at e; subst e; exact ⟨_, rfl, r⟩
  | _, _, i + 1, x, .cons _ t, e => by
    obtain ⟨u, h1, h2⟩ := Vals.get (i := i) (x := x) t (by simpa using e)
    exact ⟨u, by simpa using h1, h2⟩
theorem Vals.set {x : V} {u : Value} (r : RelV x u) : ∀ {xs : List V} {us : List Value} (i : Nat), Vals xs us → Vals (xs.set i x) (us.set i u)
  | _, _, _, .nil => .nil
  | _, _, 0, .cons _ t => .cons r t
  | _, _, i + 1, .cons q t => .cons q (Vals.set r i t)
theorem Vals.append : ∀ {xs ys : List V} {us ws : List Value}, Vals xs us → Vals ys ws → Vals (xs ++ ys) (us ++ ws)
  | _, _, _, _, .nil, s => s
  | _, _, _, _, .cons r t, s => .cons r (Vals.append t s)
theorem Vals.take : ∀ {xs : List V} {us : List Value} (n : Nat), Vals xs us → Vals (xs.take n) (us.take n)
  | _, _, 0, _ => .nil
  | _, _, _ + 1, .nil => .nil
  | _, _, n + 1, .cons r t => .cons r (Vals.take n t)
theorem Vals.drop : ∀ {xs : List V} {us : List Value} (n : Nat), Vals xs us → Vals (xs.drop n) (us.drop n)
  | _, _, 0, r => r
  | _, _, _ + 1, .nil => .nil
  | _, _, n + 1, .cons _ t => Vals.drop n t
def RelO : Option V → Option Value → Prop
  | some v, some u => RelV v u
  | none, none => True
  | _, _ => False
def KV {κ : Type} : List (κ × V) → List (κ × Value) → Prop := Paired fun (p : κ × V) (q : κ × Value) => p.1 = q.1 ∧ RelV p.2 q.2
def kV : Key → V
  | .inl i => .int i
  | .inr x => .str x
inductive HO where
  | lst (xs : List V)
  | tup (xs : List V)
  | dK (kvs : List (Key × V)) | dT (kvs : List (List Key × V))
  | set (S : Int → Bool) (n : Nat)
  | ins (C dx : Addr) (fs : List (Str × V))
  | own (x : Addr)
  | xd (fs : List (Str × V))
  | met (f x : Addr)
  | rng (lo hi : Int)
  | frz (o : Obj) (u : HO)
  | tbl (ps : Array Value)
  | ext (φ : Heap → Prop)
abbrev Hp := Addr → Option HO
def upd (H : Hp) (a : Addr) (o : HO) : Hp := fun b => if b = a then some o else H b
theorem upd_same {H : Hp} {a : Addr} {o : HO} : upd H a o a = some o := by unfold upd; rw [if_pos rfl]
theorem upd_ne {H : Hp} {a b : Addr} {o : HO} (h : b ≠ a) : upd H a o b = H b := by unfold upd; rw [if_neg h]
theorem upd_upd {H : Hp} {a : Addr} {o u : HO} : upd (upd H a o) a u = upd H a u := by
  funext b; unfold upd; split <;> rfl
theorem ne_of_none {H : Hp} {a b : Addr} {o : HO} (h : H a = some o) (h' : H b = none) : a ≠ b := by
  intro e; subst e; rw [h] at h'; cases h'
section
variable (P : Program) (w : World)
def ObjOk (H : Hp) (h : Heap) (a : Addr) : HO → Prop
  | .lst xs => xs.length ≤ sizeLine ∧ ∃ (its : List Value) (n : Nat), Vals xs its ∧ h.get? a = some { cls := .type "list", data := .seq its.toArray n }
  | .tup xs => xs.length ≤ sizeLine ∧ ∃ its : List Value, Vals xs its ∧ IsTup h a its.toArray
  | .dK kvs => kvs.length ≤ sizeLine ∧ (a == sysModules) = false ∧ ∃ vs, KV kvs vs ∧ h.DictOf (mixKind P w) a vs
  | .dT kvs => kvs.length ≤ sizeLine ∧ (a == sysModules) = false ∧ ∃ xs : List (List Key × Addr × Value),
      Paired (fun (p : List Key × V) (q : List Key × Addr × Value) => p.1 = q.1 ∧ H q.2.1 = some (.tup (p.1.map kV)) ∧ RelV p.2 q.2.2) kvs xs ∧
      ∃ o es ep, h.get? a = some o ∧ o.ExactDict ∧ o.data = .dict es ep ∧ es.toList = xs.map (entryOfKey (tupleKind (mixKind P w))) ∧ (xs.map (·.1)).Nodup
  | .set S n => h.SetOf (intKind P w) a S n
  | .ins C dx fs => H dx = some (.own a) ∧ fs.length ≤ 1000 ∧ dx ≠ a ∧ h.get? a = some (PySem.W.instObj C dx) ∧
      ∃ mA, h.Ns1 dx mA ∧ (∀ f, RelO (fs.lookup f) (mA f)) ∧ PySem.Within mA (fs.map (·.1))
  | .own _ => ∃ o, h.get? a = some o
  | .xd fs => ∃ mA, h.Ns1 a mA ∧ ∀ f, RelO (fs.lookup f) (mA f)
  | .rng lo hi => ∃ t u v, h.get? a = some { cls := .type "range", data := .fields #[.int lo t, .int hi u, .int 1 v] }
  | .frz o u => h.get? a = some o ∧ ObjOk H h a u
  | .tbl ps => h.get? a = some { cls := .none, data := .fields ps }
  | .met f x => h.get? a = some (PySem.W.methodObj (.ref f) (.ref x))
  | .ext φ => φ h ∧ (∃ o, h.get? a = some o) ∧ ∀ h1 h2 : Heap, φ h1 → (∀ o, h1.get? a = some o → h2.get? a = some o) → φ h2
def HOk (H : Hp) (h : Heap) : Prop := ∀ a o, H a = some o → ObjOk P w H h a o
end
section
variable {P : Program} {w : World} {H H' : Hp} {h h' : Heap} {a : Addr} {o : HO}
theorem ObjOk.lt (x : ObjOk P w H h a o) : a < h.objs.size := by
  cases o with
  | lst xs => obtain ⟨_, _, _, _, e⟩ := x; exact Heap.lt_size e
  | tup xs => obtain ⟨_, _, _, p⟩ := x; exact p.lt
  | dK kvs => obtain ⟨_, _, _, _, o, _, _, e, _⟩ := x; exact Heap.lt_size e
  | dT kvs => obtain ⟨_, _, _, _, o, _, _, e, _⟩ := x; exact Heap.lt_size e
  | set S n => obtain ⟨o, _, _, _, e, _⟩ := x; exact Heap.lt_size e
  | ins C dx fs => obtain ⟨_, _, _, e, _⟩ := x; exact Heap.lt_size e
  | own y => obtain ⟨_, e⟩ := x; exact Heap.lt_size e
  | xd fs => obtain ⟨_, ⟨_, _, _, e, _⟩, _⟩ := x; exact Heap.lt_size e
  | rng lo hi => obtain ⟨_, _, _, e⟩ := x; exact Heap.lt_size e
  | frz ob u => obtain ⟨e, _⟩ := x; exact Heap.lt_size e
  | tbl ps => exact Heap.lt_size (show h.get? a = some _ from x)
  | met f y => exact Heap.lt_size (show h.get? a = some _ from x)
  | ext φ => obtain ⟨_, ⟨_, e⟩, _⟩ := x; exact Heap.lt_size e
theorem Paired.mapP {α β : Type} {F G : α → β → Prop} : ∀ {l₁ : List α} {l₂ : List β}, Paired F l₁ l₂ → (∀ a b, F a b → G a b) → Paired G l₁ l₂
  | _, _, .nil, _ => .nil
  | _, _, .cons r t, f => .cons (f _ _ r) (Paired.mapP t f)
theorem ObjOk.stay (x : ObjOk P w H h a o) (k : ∀ b u, (b = a ∨ H b = some (.own a)) → h.get? b = some u → h'.get? b = some u)
    (ho : ∀ b, H b = some (.own a) → H' b = some (.own a)) (ht : ∀ b xs, H b = some (.tup xs) → H' b = some (.tup xs)) : ObjOk P w H' h' a o := by
  induction o with
  | lst xs => obtain ⟨z, its, n, r, e⟩ := x; exact ⟨z, its, n, r, k _ _ (.inl rfl) e⟩
  | tup xs => obtain ⟨z, its, r, ob, e, c⟩ := x; exact ⟨z, its, r, ob, k _ _ (.inl rfl) e, c⟩
  | dK kvs => obtain ⟨z, y, vs, r, ob, es, ep, e, c⟩ := x; exact ⟨z, y, vs, r, ob, es, ep, k _ _ (.inl rfl) e, c⟩
  | dT kvs =>
    obtain ⟨z, y, xs, r, ob, es, ep, e, c⟩ := x
    exact ⟨z, y, xs, Paired.mapP r fun p q z => ⟨z.1, ht _ _ z.2.1, z.2.2⟩, ob, es, ep, k _ _ (.inl rfl) e, c⟩
  | set S n => obtain ⟨ob, es, ep, t, e, c⟩ := x; exact ⟨ob, es, ep, t, k _ _ (.inl rfl) e, c⟩
  | ins C dx fs =>
    obtain ⟨d, z, ne, e, mA, ⟨od, es, ep, e2, c⟩, r⟩ := x
    exact ⟨ho _ d, z, ne, k _ _ (.inl rfl) e, mA, ⟨od, es, ep, k _ _ (.inr d) e2, c⟩, r⟩
  | own y => obtain ⟨ob, e⟩ := x; exact ⟨ob, k _ _ (.inl rfl) e⟩
  | xd fs => obtain ⟨mA, ⟨od, es, ep, e, c⟩, r⟩ := x; exact ⟨mA, ⟨od, es, ep, k _ _ (.inl rfl) e, c⟩, r⟩
  | rng lo hi => obtain ⟨t, u, v, e⟩ := x; exact ⟨t, u, v, k _ _ (.inl rfl) e⟩
  | frz ob u ih => obtain ⟨e, q⟩ := x; exact ⟨k _ _ (.inl rfl) e, ih q⟩
  | tbl ps =>
    have e : h.get? a = some { cls := .none, data := .fields ps } := x
    show h'.get? a = some { cls := .none, data := .fields ps }
    exact k a _ (.inl rfl) e
  | met f y =>
    have e : h.get? a = some (PySem.W.methodObj (.ref f) (.ref y)) := x
    show h'.get? a = some (PySem.W.methodObj (.ref f) (.ref y))
    exact k a _ (.inl rfl) e
  | ext φ => obtain ⟨p, ⟨o, e⟩, st⟩ := x; exact ⟨st _ _ p fun o q => k _ _ (.inl rfl) q, ⟨o, k _ _ (.inl rfl) e⟩, st⟩
theorem HOk.lt (x : HOk P w H h) (e : H a = some o) : a < h.objs.size := (x a o e).lt
theorem HOk.fresh (x : HOk P w H h) (e : h.objs.size ≤ a) : H a = none := by
  cases q : H a with
  | none => rfl
  | some u => exact absurd (Nat.lt_of_lt_of_le (x.lt q) e) (Nat.lt_irrefl _)
theorem HOk.kept (x : HOk P w H h) (k : ∀ b u, h.get? b = some u → h'.get? b = some u) : HOk P w H h' := fun a o e =>
  (x a o e).stay (fun b u _ q => k b u q) (fun _ q => q) fun _ _ q => q
theorem HOk.laid (x : HOk P w H h) (k : ∀ b u, h.get? b = some u → h'.get? b = some u) (hp : h.objs.size ≤ a) (new : ObjOk P w (upd H a o) h' a o) : HOk P w (upd H a o) h' := fun b u e => by
  have hn := x.fresh hp
  by_cases hb : b = a
  · subst hb; rw [upd_same] at e; cases e; exact new
  · rw [upd_ne hb] at e
    exact (x b u e).stay (fun c v _ q => k c v q) (fun c q => by rw [upd_ne (ne_of_none q hn)]; exact q) fun c xs q => by rw [upd_ne (ne_of_none q hn)]; exact q
end
def Rd (H : Hp) (a : Addr) (u : HO) : Prop := H a = some u ∨ ∃ o, H a = some (.frz o u)
theorem Rd.of {H : Hp} {a : Addr} {u : HO} (h : H a = some u) : Rd H a u := .inl h
theorem Rd.ok {P : Program} {w : World} {H : Hp} {h : Heap} {a : Addr} {u : HO} (r : Rd H a u) (x : HOk P w H h) : ObjOk P w H h a u := by
  rcases r with r | ⟨o, r⟩
  · exact x a u r
  · obtain ⟨_, q⟩ := x a _ r
    exact q
def Mut : Option HO → Prop
  | some (.lst _) => True
  | some (.dK _) => True
  | some (.dT _) => True
  | some (.set _ _) => True
  | some (.ins _ _ _) => True
  | some (.ext _) => True
  | _ => False
section
variable {P : Program} {w : World} {H : Hp} {h h' : Heap} {x e : Addr} {o' : HO}
theorem HOk.write (ok : HOk P w H h) (mu : Mut (H x)) (he : e = x ∨ H e = some (.own x)) (k : ∀ b u, b ≠ e → h.get? b = some u → h'.get? b = some u) (heo : ∃ u, h'.get? e = some u)
    (new : ObjOk P w (upd H x o') h' x o') : HOk P w (upd H x o') h' := fun b u q => by
  have nown : ∀ c y, H c = some (.own y) → c ≠ x := fun c y r z => by subst z; rw [r] at mu; exact mu
  have ntup : ∀ c xs, H c = some (.tup xs) → c ≠ x := fun c xs r z => by subst z; rw [r] at mu; exact mu
  by_cases hb : b = x
  · subst hb; rw [upd_same] at q; cases q; exact new
  · rw [upd_ne hb] at q
    by_cases hbe : b = e
    · have q' : H b = some (.own x) := by
        rcases he with z | z
        · exact absurd (hbe.trans z) hb
        · rw [hbe]; exact z
      rw [q] at q'; cases q'
      obtain ⟨v, hv⟩ := heo
      exact ⟨v, by rw [hbe]; exact hv⟩
    · refine (ok b u q).stay (fun c v hc r => k c v ?_ r) (fun c r => by rw [upd_ne (nown c b r)]; exact r) fun c xs r => by rw [upd_ne (ntup c xs r)]; exact r
      rcases hc with rfl | hc
      · exact hbe
      · rintro rfl
        rcases he with z | z
        · exact nown c b hc z
        · rw [hc] at z; cases z; exact hb rfl
end
structure Un (fs ex : List Addr) (H H' : Hp) (h h' : Heap) : Prop where
  keep : ∀ b o, h.get? b = some o → H b = none → b ∉ fs → b ∉ ex → h'.get? b = some o
  slot : ∀ b o, h.get? b = some o → H b = none → b ∈ fs → b ∉ ex → ∃ sl, h'.get? b = some { o with slots := sl }
  free : ∀ b o, h.get? b = some o → H b = none → b ∉ ex → H' b = none
  there : ∀ b o, h.get? b = some o → b ∉ ex → ∃ o', h'.get? b = some o'
  tups : ∀ b xs, H b = some (.tup xs) → H' b = some (.tup xs)
  frzs : ∀ b o u, H b = some (.frz o u) → H' b = some (.frz o u)
  tbls : ∀ b ps, H b = some (.tbl ps) → ∃ more, H' b = some (.tbl (ps ++ more))
section
variable {fs fs' ex ex' : List Addr} {H H1 H2 : Hp} {h h1 h2 h' : Heap} {a x e : Addr} {o : HO}
theorem Un.any (u : Un fs ex H H1 h h1) {b : Addr} {ob : Obj} (q : h.get? b = some ob) (n : H b = none) (hx : b ∉ ex) : ∃ sl, h1.get? b = some { ob with slots := sl } := by
  by_cases hb : b ∈ fs
  · exact u.slot b ob q n hb hx
  · exact ⟨ob.slots, u.keep b ob q n hb hx⟩
theorem Un.trans (a : Un fs ex H H1 h h1) (b : Un fs ex H1 H2 h1 h2) : Un fs ex H H2 h h2 where
  keep := fun c ob q n hc hx => b.keep c ob (a.keep c ob q n hc hx) (a.free c ob q n hx) hc hx
  slot := fun c ob q n hc hx => by
    obtain ⟨sl, e1⟩ := a.slot c ob q n hc hx
    obtain ⟨sl', e2⟩ := b.slot c _ e1 (a.free c ob q n hx) hc hx
    exact ⟨sl', e2⟩
  free := fun c ob q n hx => by
    obtain ⟨o', e1⟩ := a.there c ob q hx
    exact b.free c o' e1 (a.free c ob q n hx) hx
  there := fun c ob q hx => by
    obtain ⟨o', e1⟩ := a.there c ob q hx
    exact b.there c o' e1 hx
  tups := fun c xs q => b.tups c xs (a.tups c xs q)
  frzs := fun c ob xs q => b.frzs c ob xs (a.frzs c ob xs q)
  tbls := fun c ps q => by
    obtain ⟨m1, e1⟩ := a.tbls c ps q
    obtain ⟨m2, e2⟩ := b.tbls c _ e1
    exact ⟨m1 ++ m2, by rw [e2, Array.append_assoc]⟩
theorem Un.kept (k : ∀ b u, h.get? b = some u → h'.get? b = some u) : Un fs ex H H h h' :=
  ⟨fun b ob q _ _ _ => k b ob q, fun b ob q _ _ _ => ⟨ob.slots, k b ob q⟩, fun _ _ _ n _ => n, fun b ob q _ => ⟨ob, k b ob q⟩, fun _ _ q => q, fun _ _ _ q => q, fun _ ps q => ⟨#[], by rw [q]; simp⟩⟩
theorem Un.refl : Un fs ex H H h h := Un.kept fun _ _ q => q
theorem Un.laid (k : ∀ b u, h.get? b = some u → h'.get? b = some u) (hp : h.objs.size ≤ a) (hn : H a = none) : Un fs ex H (upd H a o) h h' where
  keep := fun b u q _ _ _ => k b u q
  slot := fun b u q _ _ _ => ⟨u.slots, k b u q⟩
  free := fun b u q n _ => by rw [upd_ne (Nat.ne_of_lt (Nat.lt_of_lt_of_le (Heap.lt_size q) hp))]; exact n
  there := fun b u q _ => ⟨u, k b u q⟩
  tups := fun b xs q => by rw [upd_ne (ne_of_none q hn)]; exact q
  frzs := fun b u xs q => by rw [upd_ne (ne_of_none q hn)]; exact q
  tbls := fun b ps q => ⟨#[], by rw [upd_ne (ne_of_none q hn), q]; simp⟩
theorem Un.write (mu : Mut (H x)) (he : e = x ∨ H e = some (.own x)) (k : ∀ b u, b ≠ e → h.get? b = some u → h'.get? b = some u) (heo : ∃ u, h'.get? e = some u) : Un fs ex H (upd H x o) h h' := by
  have hx : ∀ b, H b = none → b ≠ x := fun b n z => by subst z; rw [n] at mu; exact mu
  have hb : ∀ b, H b = none → b ≠ e := fun b n z => by
    subst z
    rcases he with r | r
    · exact hx b n r
    · rw [n] at r; cases r
  have hm : ∀ b u, H b = some u → ¬ Mut (some u) → b ≠ x := fun b u q nm z => by subst z; rw [q] at mu; exact nm mu
  refine ⟨fun b u q n _ _ => k b u (hb b n) q, fun b u q n _ _ => ⟨u.slots, k b u (hb b n) q⟩, fun b u q n _ => by rw [upd_ne (hx b n)]; exact n, fun b u q _ => ?_,
    fun b xs q => by rw [upd_ne (hm b _ q fun z => z)]; exact q, fun b u xs q => by rw [upd_ne (hm b _ q fun z => z)]; exact q, fun b ps q => ⟨#[], by rw [upd_ne (hm b _ q fun z => z), q]; simp⟩⟩
  by_cases hbe : b = e
  · subst hbe; exact heo
  · exact ⟨u, k b u hbe q⟩
theorem Un.mono (u : Un fs ex H H1 h h1) (hs : ∀ b ∈ fs, b ∈ fs') (hx : ∀ b ∈ ex, b ∈ ex') : Un fs' ex' H H1 h h1 :=
  ⟨fun b ob q n hb he => u.keep b ob q n (fun z => hb (hs b z)) fun z => he (hx b z), fun _ _ q n _ he => u.any q n fun z => he (hx _ z), fun b ob q n he => u.free b ob q n fun z => he (hx b z), fun b ob q he => u.there b ob q fun z => he (hx b z), u.tups, u.frzs, u.tbls⟩
end
def trk (h : Heap) (H : Hp) : List Addr := (List.range h.objs.size).filter fun a => (H a).isSome
def hidT (h : Heap) (H : Hp) : Heap := PySem.W.hideAll h (trk h H)
theorem hidT_size (h : Heap) (H : Hp) : (hidT h H).objs.size = h.objs.size := PySem.W.hideAll_size _ _
theorem hidT_get {h : Heap} {H : Hp} {b : Addr} {o : Obj} (e : h.get? b = some o) (n : H b = none) : (hidT h H).get? b = some o :=
  PySem.W.hideAll_get _ e fun hm => by
    have q : (H b).isSome = true := (List.mem_filter.mp hm).2
    rw [n] at q; simp at q
theorem of_hidT {h : Heap} {H : Hp} {b : Addr} {o : Obj} (e : (hidT h H).get? b = some o) : h.get? b = some o ∧ H b = none := by
  have e' : h.get? b = some o := PySem.W.of_hideAll (trk h H) e
  refine ⟨e', ?_⟩
  cases q : H b with
  | none => rfl
  | some x =>
    have hm : b ∈ trk h H := List.mem_filter.mpr ⟨List.mem_range.mpr (Heap.lt_size e'), by simp [q]⟩
    have z : (hidT h H).get? b = none := PySem.W.hideAll_none (trk h H) hm
    rw [z] at e; cases e
def allNews (g h : Heap) (L : Addr) : List (Addr × Obj) := (List.range h.objs.size).filterMap fun a => if a = L ∨ (g.get? a).isSome = true then none else (h.get? a).map fun o => (a, o)
def rest (g h : Heap) (L d : Addr) : List (Addr × Obj) := (allNews g h L).filter fun p => decide (p.1 ≠ d)
end L2
namespace L2
open PySem PySem.Spec PyProof.Rows
structure Mod (K : PySem.W.Frag) (mg : Str → Option Value) (base : Heap) : Prop where
  kin : K.In base
  glob : base.Ns mainGlobals mg
  blt : ∃ mb, base.Ns builtinsNs mb ∧ ∀ x : Str, x ≠ "__name__" → mb x = bootBuiltins x
  nolimit : base.NoLimit
structure Cx where
  prog : Program
  w : World
  K : PySem.W.Frag
  mg : Str → Option Value
  base : Heap
  A : Around
  N : List Str
  s₀ : Shared
  H₀ : Hp
  env : Env
  outer : List Env
  stack : List Env
  ex : List Addr
  fn : Str → Bool
  calm : Bool
  pn : List (Addr × Obj)
  xe : Value → Shared → Prop
def frs (l : List Env) : List Addr := l.filterMap (·.frame)
abbrev Cx.fs (X : Cx) : List Addr := frs X.outer
def Vis (sc : Scope) (x : Str) : Prop := sc.names.lookup x = some .local ∨ sc.names.lookup x = some .cell ∨ sc.names.lookup x = some .free
def Loc (sc : Scope) (x : Str) : Prop := sc.names.lookup x = some .local ∨ sc.names.lookup x = some .cell
def Look (env : Env) (h : Heap) (m : Str → Option Value) (x : Str) (u : Value) : Prop :=
  (env.kindOf x = some .local ∧ m x = some u) ∨ ((env.kindOf x = some .cell ∨ env.kindOf x = some .free) ∧ ∃ c, env.cells.lookup x = some c ∧ h.IsCell c (some u))
structure Cx.Ok (X : Cx) : Prop where
  mod : Mod X.K X.mg X.base
  kind : X.env.scope.kind = .function
  glob : X.env.globals = mainGlobals
  blt : X.env.builtins = builtinsNs
  above : X.s₀.heap.objs.size ≤ X.env.locals
  inj : ∀ x y c, X.env.cells.lookup x = some c → X.env.cells.lookup y = some c → x = y
  has : ∀ x, (X.env.kindOf x = some .cell ∨ X.env.kindOf x = some .free) → ∃ c, X.env.cells.lookup x = some c
  cab : ∀ x c, X.fn x = true → X.env.cells.lookup x = some c → X.s₀.heap.objs.size ≤ c
  hd : X.calm = true → X.A.handled = none
  frames : X.A.frames = some X.stack
  stk : X.stack = X.outer ∨ (X.stack = X.env :: X.outer ∧ X.env.frame = some X.env.locals)
  exf : ∀ b ∈ X.ex, b ≠ X.env.locals ∧ ∀ x c, X.env.cells.lookup x = some c → c ≠ b
  bs : ∀ b o, X.base.get? b = some o → X.s₀.heap.get? b = some o ∧ X.H₀ b = none
  bsz : X.base.objs.size ≤ X.s₀.heap.objs.size
  noex : ∀ b o, X.base.get? b = some o → b ∉ X.ex
  exfs : ∀ b ∈ X.ex, b ∉ X.fs
  funs : X.s₀.heap.FunFrames X.base X.outer
  frf : ∀ b ∈ X.fs, X.H₀ b = none
structure Inv (X : Cx) (pins : List (Addr × Obj)) (σ : List (Option V)) (H : Hp) (s : Shared) : Prop where
  ok : X.Ok
  os : s.os = X.s₀.os
  bare : AllBare s.gens
  base : Un X.fs X.ex X.H₀ H X.s₀.heap s.heap
  loc : ∃ m, s.heap.Ns X.env.locals m ∧ ∀ (i : Nat) (x : Str) (v : V), X.N[i]? = some x → σ[i]? = some (some v) → Vis X.env.scope x → ∃ u, RelV v u ∧ Look X.env s.heap m x u
  cell : ∀ x c, X.env.cells.lookup x = some c → ∃ v, s.heap.IsCell c v
  free : H X.env.locals = none
  freeC : ∀ x c, X.env.cells.lookup x = some c → H c = none
  pin : ∀ p ∈ X.pn ++ pins, s.heap.get? p.1 = some p.2 ∧ H p.1 = none ∧ p.1 ≠ X.env.locals ∧ p.1 ∉ X.fs ∧ ∀ v, p.2.data ≠ .cell v
  hok : HOk X.prog X.w H s.heap
  len : σ.length = X.N.length
section
variable {X : Cx} {pins : List (Addr × Obj)} {σ : List (Option V)} {H H' : Hp} {s : Shared} {h' : Heap}
theorem Cx.Ok.nofr (ok : X.Ok) {b : Addr} {o : Obj} (e : X.base.get? b = some o) : b ∉ X.fs := fun hb => by
  have := (ok.funs.mem hb).1
  rw [e] at this; cases this
theorem Inv.bs (I : Inv X pins σ H s) : ∀ b o, X.base.get? b = some o → s.heap.get? b = some o ∧ H b = none := fun b o e =>
  ⟨I.base.keep b o (I.ok.bs b o e).1 (I.ok.bs b o e).2 (I.ok.nofr e) (I.ok.noex b o e), I.base.free b o (I.ok.bs b o e).1 (I.ok.bs b o e).2 (I.ok.noex b o e)⟩
theorem Inv.bk (I : Inv X pins σ H s) : ∀ b o, X.base.get? b = some o → s.heap.get? b = some o := fun b o e => (I.bs b o e).1
theorem Inv.mod (I : Inv X pins σ H s) : Mod X.K X.mg X.base := I.ok.mod
theorem Inv.kIn (I : Inv X pins σ H s) : X.K.In s.heap := I.ok.mod.kin.keeps I.bk
theorem Inv.nolimit (I : Inv X pins σ H s) : s.heap.NoLimit := I.ok.mod.nolimit.keeps I.bk
theorem Inv.fr (I : Inv X pins σ H s) : ∃ m, Fr X.base X.env.locals s.heap m :=
  let ⟨m, hn, _⟩ := I.loc
  ⟨m, hn, I.bk, Nat.le_trans I.ok.bsz I.ok.above⟩
theorem Inv.lt (I : Inv X pins σ H s) : X.env.locals < s.heap.objs.size := let ⟨_, hn, _⟩ := I.loc; hn.lt
theorem Inv.sz (I : Inv X pins σ H s) : X.s₀.heap.objs.size ≤ s.heap.objs.size := Nat.le_trans I.ok.above (Nat.le_of_lt I.lt)
theorem Inv.nofs (I : Inv X pins σ H s) {a : Addr} (h : s.heap.objs.size ≤ a) : a ∉ X.fs := fun hb => by
  obtain ⟨_, o, ho, _⟩ := I.ok.funs.mem hb
  exact absurd (Nat.lt_of_lt_of_le (Heap.lt_size ho) (Nat.le_trans I.sz h)) (Nat.lt_irrefl _)
theorem Inv.cne (I : Inv X pins σ H s) : ∀ x c, X.env.cells.lookup x = some c → c ≠ X.env.locals := fun x c e z => by
  obtain ⟨v, o, ho, hd⟩ := I.cell x c e
  obtain ⟨m, ⟨o', es, ep, ho', hd', _⟩, _⟩ := I.loc
  rw [z, ho'] at ho; cases ho; rw [hd'] at hd; cases hd
theorem Inv.funs (I : Inv X pins σ H s) : s.heap.FunFrames X.base X.outer := by
  have all : ∀ (l : List Env), (∀ b ∈ frs l, b ∈ X.fs) → X.s₀.heap.FunFrames X.base l → s.heap.FunFrames X.base l := by
    intro l
    induction l with
    | nil => intro _ _; trivial
    | cons env r ih =>
      intro hs hl
      obtain ⟨hk, ⟨L, o, hf, hn, ho, hd⟩, hr⟩ := hl
      have hL : L ∈ X.fs := hs L (by unfold frs; rw [List.filterMap_cons, hf]; exact List.mem_cons_self)
      obtain ⟨sl, e⟩ := I.base.slot L o ho (I.ok.frf L hL) hL fun z => I.ok.exfs L z hL
      exact ⟨hk, ⟨L, _, hf, hn, e, hd⟩, ih (fun b hb => hs b (by unfold frs; rw [List.filterMap_cons, hf]; exact List.mem_cons_of_mem _ hb)) hr⟩
  exact all X.outer (fun _ hb => hb) I.ok.funs
theorem Inv.stack (I : Inv X pins σ H s) : s.heap.FunFrames X.base X.stack := by
  rcases I.ok.stk with e | ⟨e, hf⟩
  · rw [e]; exact I.funs
  · rw [e]
    obtain ⟨m, hn, _⟩ := I.loc
    refine .cons (by rw [I.ok.kind]; decide) hf hn ?_ I.funs
    exact Heap.get?_none_of_le (Nat.le_trans I.ok.bsz I.ok.above)
theorem Inv.stkSub (I : Inv X pins σ H s) : ∀ b ∈ frs X.stack, b ∈ X.env.locals :: X.fs := fun b hb => by
  rcases I.ok.stk with e | ⟨e, hf⟩
  · rw [e] at hb; exact List.mem_cons_of_mem _ hb
  · rw [e] at hb
    unfold frs at hb
    rw [List.filterMap_cons, hf] at hb
    exact hb
theorem Inv.stkFree (I : Inv X pins σ H s) : ∀ b ∈ frs X.stack, H b = none := fun b hb => by
  rcases List.mem_cons.mp (I.stkSub b hb) with e | hb
  · rw [e]; exact I.free
  · obtain ⟨_, o, ho, _⟩ := I.ok.funs.mem hb
    exact I.base.free b o ho (I.ok.frf b hb) fun z => I.ok.exfs b z hb
theorem Inv.step {g' : Array GenState} {t' : Nat} {d' : Drawn} {ch : List Addr} (I : Inv X pins σ H s)
    (hch : ∀ b ∈ ch, (b ∈ X.ex ∨ X.s₀.heap.objs.size ≤ b) ∧ b ≠ X.env.locals ∧ (∀ x c, X.env.cells.lookup x = some c → c ≠ b) ∧ ∀ p ∈ X.pn ++ pins, p.1 ≠ b)
    (keep : ∀ b o, b ≠ X.env.locals → b ∉ X.fs → b ∉ ch → s.heap.get? b = some o → H b = none → h'.get? b = some o)
    (slot : ∀ b o, b ≠ X.env.locals → b ∈ X.fs → b ∉ ch → s.heap.get? b = some o → H b = none → ∃ sl, h'.get? b = some { o with slots := sl }) (free : ∀ b o, b ∉ ch → s.heap.get? b = some o → H b = none → H' b = none)
    (there : ∀ b o, b ∉ ch → s.heap.get? b = some o → ∃ o', h'.get? b = some o')
    (tups : ∀ b xs, H b = some (.tup xs) → H' b = some (.tup xs)) (frzs : ∀ b o u, H b = some (.frz o u) → H' b = some (.frz o u)) (tbls : ∀ b ps, H b = some (.tbl ps) → ∃ more, H' b = some (.tbl (ps ++ more)))
    (ns : ∀ m, s.heap.Ns X.env.locals m → h'.Ns X.env.locals m) (hok : HOk X.prog X.w H' h') (hg : AllBare g') :
    Inv X pins σ H' { s with heap := h', gens := g', drawn := d', toks := t' } := by
  have neL : ∀ b o, X.s₀.heap.get? b = some o → b ≠ X.env.locals := fun b o e => Nat.ne_of_lt (Nat.lt_of_lt_of_le (Heap.lt_size e) I.ok.above)
  have neC : ∀ b o, X.s₀.heap.get? b = some o → b ∉ X.ex → b ∉ ch := fun b o e hx hb => by
    rcases (hch b hb).1 with z | z
    · exact hx z
    · exact absurd (Nat.lt_of_lt_of_le (Heap.lt_size e) z) (Nat.lt_irrefl _)
  have cellK : ∀ x c, X.env.cells.lookup x = some c → ∀ v, s.heap.IsCell c v → h'.IsCell c v := fun x c e v ⟨o, ho, hd⟩ => by
    have nch : c ∉ ch := fun z => (hch c z).2.2.1 x c e rfl
    by_cases hc : c ∈ X.fs
    · obtain ⟨sl, q⟩ := slot c o (I.cne x c e) hc nch ho (I.freeC x c e)
      exact ⟨_, q, hd⟩
    · exact ⟨o, keep c o (I.cne x c e) hc nch ho (I.freeC x c e), hd⟩
  refine ⟨I.ok, I.os, hg, ⟨fun b o e n hb hx => ?_, fun b o e n hb hx => ?_, fun b o e n hx => ?_, fun b o e hx => ?_, fun b xs e => tups b xs (I.base.tups b xs e), fun b o xs e => frzs b o xs (I.base.frzs b o xs e), fun b ps e => ?_⟩, ?_, fun x c e => ?_, ?_, fun x c e => ?_, fun p hp => ?_, hok, I.len⟩
  · exact keep b o (neL b o e) hb (neC b o e hx) (I.base.keep b o e n hb hx) (I.base.free b o e n hx)
  · obtain ⟨sl, e1⟩ := I.base.slot b o e n hb hx
    obtain ⟨sl', e2⟩ := slot b _ (neL b o e) hb (neC b o e hx) e1 (I.base.free b o e n hx)
    exact ⟨sl', e2⟩
  · obtain ⟨o', e1⟩ := I.base.there b o e hx
    exact free b o' (neC b o e hx) e1 (I.base.free b o e n hx)
  · obtain ⟨o', e1⟩ := I.base.there b o e hx
    exact there b o' (neC b o e hx) e1
  · obtain ⟨m1, e1⟩ := I.base.tbls b ps e
    obtain ⟨m2, e2⟩ := tbls b _ e1
    exact ⟨m1 ++ m2, by rw [e2, Array.append_assoc]⟩
  · obtain ⟨m, hn, hl⟩ := I.loc
    refine ⟨m, ns m hn, fun i x v e1 e2 e3 => ?_⟩
    obtain ⟨u, r, l⟩ := hl i x v e1 e2 e3
    refine ⟨u, r, ?_⟩
    rcases l with l | ⟨k, c, e, z⟩
    · exact .inl l
    · exact .inr ⟨k, c, e, cellK x c e _ z⟩
  · obtain ⟨v, z⟩ := I.cell x c e
    exact ⟨v, cellK x c e v z⟩
  · obtain ⟨m, ⟨o, _, _, ho, _⟩, _⟩ := I.loc
    exact free _ o (fun z => (hch _ z).2.1 rfl) ho I.free
  · obtain ⟨v, o, ho, hd⟩ := I.cell x c e
    exact free c o (fun z => (hch c z).2.2.1 x c e rfl) ho (I.freeC x c e)
  · obtain ⟨e, n, ne, nf, d⟩ := I.pin p hp
    have nch : p.1 ∉ ch := fun z => (hch p.1 z).2.2.2 p hp rfl
    exact ⟨keep p.1 p.2 ne nf nch e n, free p.1 p.2 nch e n, ne, nf, d⟩
theorem Inv.un {t' : Nat} (I : Inv X pins σ H s) (u : Un X.fs [] H H' s.heap h') (hok : HOk X.prog X.w H' h') : Inv X pins σ H' { s with heap := h', toks := t' } := by
  obtain ⟨m, ⟨o, es, ep, ho, r⟩, _⟩ := id I.loc
  obtain ⟨sl, hL⟩ := u.any ho I.free (by simp)
  exact I.step (g' := s.gens) (d' := s.drawn) (ch := []) (fun _ z => nomatch z) (fun b o _ hb _ e n => u.keep b o e n hb (by simp)) (fun b o _ hb _ e n => u.slot b o e n hb (by simp)) (fun b o _ e n => u.free b o e n (by simp)) (fun b o _ e => u.there b o e (by simp)) u.tups u.frzs u.tbls (fun m' hm => by
    obtain ⟨o', es', ep', ho', r'⟩ := hm
    rw [ho] at ho'; cases ho'
    exact ⟨_, es', ep', hL, r'⟩) hok I.bare
theorem Inv.call {g' : Array GenState} {t' : Nat} {d' : Drawn} {ch : List Addr} (I : Inv X pins σ H s) (u : Un (frs X.stack) ch H H' s.heap h') (hok : HOk X.prog X.w H' h') (hg : AllBare g')
    (hch : ∀ b ∈ ch, (b ∈ X.ex ∨ X.s₀.heap.objs.size ≤ b) ∧ b ≠ X.env.locals ∧ (∀ x c, X.env.cells.lookup x = some c → c ≠ b) ∧ ∀ p ∈ X.pn ++ pins, p.1 ≠ b) :
    Inv X pins σ H' { s with heap := h', gens := g', drawn := d', toks := t' } := by
  obtain ⟨m, ⟨o, es, ep, ho, r⟩, _⟩ := id I.loc
  obtain ⟨sl, hL⟩ := u.any ho I.free fun z => (hch _ z).2.1 rfl
  exact I.step (ch := ch) hch (fun b o hL hb hc e n => u.keep b o e n (fun z => (List.mem_cons.mp (I.stkSub b z)).elim hL hb) hc) (fun b o _ _ hc e n => u.any e n hc) (fun b o hc e n => u.free b o e n hc) (fun b o hc e => u.there b o e hc) u.tups u.frzs u.tbls (fun m' hm => by
    obtain ⟨o', es', ep', ho', r'⟩ := hm
    rw [ho] at ho'; cases ho'
    exact ⟨_, es', ep', hL, r'⟩) hok hg
theorem Inv.turned {t' : Nat} {it : Addr} (I : Inv X pins σ H s) (k : ∀ b o, b ≠ it → s.heap.get? b = some o → h'.get? b = some o) (hn : H it = none) (hL : it ≠ X.env.locals)
    (h1 : it ∈ X.ex ∨ X.s₀.heap.objs.size ≤ it) (h2 : ∀ x c, X.env.cells.lookup x = some c → c ≠ it) (h3 : ∀ p ∈ X.pn ++ pins, p.1 ≠ it) : Inv X pins σ H { s with heap := h', toks := t' } := by
  have nit : ∀ b u, H b = some u → b ≠ it := fun b u e z => by rw [z, hn] at e; cases e
  refine I.step (g' := s.gens) (d' := s.drawn) (ch := [it]) (fun b hb => ?_) (fun b o _ _ hc e _ => k b o (fun z => hc (by simp [z])) e) (fun b o _ _ hc e _ => ⟨o.slots, k b o (fun z => hc (by simp [z])) e⟩) (fun _ _ _ _ n => n)
    (fun b o hc e => ⟨o, k b o (fun z => hc (by simp [z])) e⟩) (fun _ _ e => e) (fun _ _ _ e => e) (fun b ps e => ⟨#[], by rw [e]; simp⟩) (fun m hm => ?_) (fun b u e => ?_) I.bare
  · have e : b = it := by simpa using hb
    subst e
    exact ⟨h1, hL, h2, h3⟩
  · obtain ⟨o, es, ep, ho, r⟩ := hm
    exact ⟨o, es, ep, k _ o (Ne.symm hL) ho, r⟩
  · refine (I.hok b u e).stay (fun c v hc q => k c v ?_ q) (fun _ q => q) fun _ _ q => q
    rcases hc with z | z
    · rw [z]; exact nit b u e
    · exact nit c _ z
theorem Inv.tok (I : Inv X pins σ H s) (t : Nat) : Inv X pins σ H { s with toks := t } := I.un (h' := s.heap) (t' := t) Un.refl I.hok
theorem Inv.kept {t' : Nat} (I : Inv X pins σ H s) (k : ∀ b u, s.heap.get? b = some u → h'.get? b = some u) : Inv X pins σ H { s with heap := h', toks := t' } := I.un (Un.kept k) (I.hok.kept k)
theorem Inv.laid {a : Addr} {o : HO} {t' : Nat} (I : Inv X pins σ H s) (k : ∀ b u, s.heap.get? b = some u → h'.get? b = some u) (hp : s.heap.objs.size ≤ a) (new : ObjOk X.prog X.w (upd H a o) h' a o) :
    Inv X pins σ (upd H a o) { s with heap := h', toks := t' } := I.un (Un.laid k hp (I.hok.fresh hp)) (I.hok.laid k hp new)
theorem Inv.write {x e : Addr} {o : HO} {t' : Nat} (I : Inv X pins σ H s) (mu : Mut (H x)) (he : e = x ∨ H e = some (.own x)) (k : ∀ b u, b ≠ e → s.heap.get? b = some u → h'.get? b = some u) (heo : ∃ u, h'.get? e = some u)
    (new : ObjOk X.prog X.w (upd H x o) h' x o) : Inv X pins σ (upd H x o) { s with heap := h', toks := t' } := I.un (Un.write mu he k heo) (I.hok.write mu he k heo new)
theorem Inv.pins_of {pins' : List (Addr × Obj)} (I : Inv X pins σ H s) (h : ∀ p ∈ pins', s.heap.get? p.1 = some p.2 ∧ H p.1 = none ∧ p.1 ≠ X.env.locals ∧ p.1 ∉ X.fs ∧ ∀ v, p.2.data ≠ .cell v) : Inv X pins' σ H s :=
  ⟨I.ok, I.os, I.bare, I.base, I.loc, I.cell, I.free, I.freeC, fun p hp => (List.mem_append.mp hp).elim (fun z => I.pin p (List.mem_append_left _ z)) (h p), I.hok, I.len⟩
theorem nodup_ix {N : List Str} (hN : N.Nodup) {i j : Nat} {x : Str} (a : N[i]? = some x) (b : N[j]? = some x) : i = j := by
  obtain ⟨h1, e1⟩ := List.getElem?_eq_some_iff.mp a
  obtain ⟨h2, e2⟩ := List.getElem?_eq_some_iff.mp b
  exact (List.getElem_inj hN).mp (e1.trans e2.symm)
theorem store_ok2 {M : Model} {A : Around} {E : Value → Shared → Prop} {i : Nat} {x : Str} {v : V} {u : Value} {Q : Unit → Shared → Prop} (I : Inv X pins σ H s) (hN : X.N.Nodup) (hi : X.N[i]? = some x) (hx : Loc X.env.scope x) (r : RelV v u)
    (h : ∀ s', Inv X pins (σ.set i (some v)) H s' → (∃ a, Heap.SameBut a s.heap s'.heap ∧ (a = X.env.locals ∨ X.env.cells.lookup x = some a)) → Q () s') (hf : X.fn x = true ∨ X.env.scope.names.lookup x = some .local := by first | exact .inl rfl | exact .inr rfl | assumption) : wpAny M A (storeName X.env x u) Q E s := by
  obtain ⟨m, hn, hl⟩ := id I.loc
  have hcls : (X.env.scope.kind == .class || (X.env.scope.kind == .module && X.env.locals != X.env.globals)) = false := by rw [I.ok.kind]; rfl
  have hiσ : i < σ.length := by rw [I.len]; exact (List.getElem?_eq_some_iff.mp hi).1
  have cne := I.cne
  have tracked : ∀ {a : Addr} {h' : Heap}, (∃ o, s.heap.get? a = some o ∧ H a = none) → Heap.SameBut a s.heap h' → HOk X.prog X.w H h' := fun {a h'} ha hs b ob e => by
    obtain ⟨_, _, hfree⟩ := ha
    refine (I.hok b ob e).stay (fun c w' hc q => (hs.2 c ?_).trans q) (fun _ q => q) fun _ _ q => q
    rintro rfl
    rcases hc with rfl | hc
    · rw [hfree] at e; cases e
    · rw [hfree] at hc; cases hc
  rcases hx with hk | hk
  · refine wpAny_storeName_local hk hn (fun h' hn' hs => ?_) hcls
    obtain ⟨oL, _, _, hoL, _⟩ := id hn
    refine h _ ⟨I.ok, I.os, I.bare, ⟨fun b o e n hb hx => ?_, fun b o e n hb hx => ?_, I.base.free, fun b o e hx => ?_, I.base.tups, I.base.frzs, I.base.tbls⟩, ⟨_, hn', fun j y v' e1 e2 e3 => ?_⟩, fun y c e => ?_, I.free, I.freeC, fun p hp => ?_, tracked ⟨oL, hoL, I.free⟩ hs, by simpa using I.len⟩ ⟨_, hs, .inl rfl⟩
    · exact (hs.2 b (Nat.ne_of_lt (Nat.lt_of_lt_of_le (Heap.lt_size e) I.ok.above))).trans (I.base.keep b o e n hb hx)
    · obtain ⟨sl, e1⟩ := I.base.slot b o e n hb hx
      exact ⟨sl, (hs.2 b (Nat.ne_of_lt (Nat.lt_of_lt_of_le (Heap.lt_size e) I.ok.above))).trans e1⟩
    · obtain ⟨o', e1⟩ := I.base.there b o e hx
      exact ⟨o', (hs.2 b (Nat.ne_of_lt (Nat.lt_of_lt_of_le (Heap.lt_size e) I.ok.above))).trans e1⟩
    · by_cases hj : j = i
      · subst hj
        rw [hi] at e1; cases e1
        rw [List.getElem?_set_self hiσ] at e2
        cases e2
        exact ⟨u, r, .inl ⟨hk, by simp⟩⟩
      · rw [List.getElem?_set_ne (Ne.symm hj)] at e2
        obtain ⟨u', r', q⟩ := hl j y v' e1 e2 e3
        refine ⟨u', r', ?_⟩
        rcases q with ⟨k, e⟩ | ⟨k, c, e, z⟩
        · refine .inl ⟨k, ?_⟩
          have : y ≠ x := fun e => hj (nodup_ix hN e1 (e ▸ hi))
          simp [this, e]
        · exact .inr ⟨k, c, e, z.sameBut hs (cne y c e)⟩
    · obtain ⟨w', z⟩ := I.cell y c e
      exact ⟨w', z.sameBut hs (cne y c e)⟩
    · obtain ⟨e, n, ne, nf, d⟩ := I.pin p hp
      exact ⟨(hs.2 p.1 ne).trans e, n, ne, nf, d⟩
  · have hfn : X.fn x = true := by
      rcases hf with z | z
      · exact z
      · rw [z] at hk; cases hk
    obtain ⟨c, hc⟩ := I.ok.has x (.inl hk)
    obtain ⟨w', z⟩ := I.cell x c hc
    refine wpAny_storeName_cell I.ok.kind hk hc z (fun h' hc' hs => ?_)
    obtain ⟨oc, hoc, hocd⟩ := id z
    refine h { s with heap := h' } ⟨I.ok, I.os, I.bare, ⟨fun b o e n hb hx => ?_, fun b o e n hb hx => ?_, I.base.free, fun b o e hx => ?_, I.base.tups, I.base.frzs, I.base.tbls⟩, ⟨m, hn.sameBut hs (Ne.symm (cne x c hc)), fun j y v' e1 e2 e3 => ?_⟩, fun y c' e => ?_, I.free, I.freeC, fun p hp => ?_, tracked ⟨oc, hoc, I.freeC x c hc⟩ hs, by simpa using I.len⟩ ⟨c, hs, .inr hc⟩
    · exact (hs.2 b (Nat.ne_of_lt (Nat.lt_of_lt_of_le (Heap.lt_size e) (I.ok.cab x c hfn hc)))).trans (I.base.keep b o e n hb hx)
    · obtain ⟨sl, e1⟩ := I.base.slot b o e n hb hx
      exact ⟨sl, (hs.2 b (Nat.ne_of_lt (Nat.lt_of_lt_of_le (Heap.lt_size e) (I.ok.cab x c hfn hc)))).trans e1⟩
    · obtain ⟨o', e1⟩ := I.base.there b o e hx
      exact ⟨o', (hs.2 b (Nat.ne_of_lt (Nat.lt_of_lt_of_le (Heap.lt_size e) (I.ok.cab x c hfn hc)))).trans e1⟩
    · by_cases hj : j = i
      · subst hj
        rw [hi] at e1; cases e1
        rw [List.getElem?_set_self hiσ] at e2
        cases e2
        exact ⟨u, r, .inr ⟨.inl hk, c, hc, hc'⟩⟩
      · rw [List.getElem?_set_ne (Ne.symm hj)] at e2
        obtain ⟨u', r', q⟩ := hl j y v' e1 e2 e3
        refine ⟨u', r', ?_⟩
        rcases q with q | ⟨k, c', e, z'⟩
        · exact .inl q
        · refine .inr ⟨k, c', e, z'.sameBut hs ?_⟩
          rintro rfl
          exact hj (nodup_ix hN e1 (I.ok.inj _ _ _ e hc ▸ hi))
    · by_cases hcc : c' = c
      · subst hcc; exact ⟨_, hc'⟩
      · obtain ⟨w2, z2⟩ := I.cell y c' e
        exact ⟨w2, z2.sameBut hs hcc⟩
    · obtain ⟨e, n, ne, nf, d⟩ := I.pin p hp
      refine ⟨(hs.2 p.1 ?_).trans e, n, ne, nf, d⟩
      intro q
      rw [q, hoc] at e
      have q' : oc = p.2 := Option.some.inj e
      exact d w' (by rw [← q']; exact hocd)
theorem store_ok {M : Model} {A : Around} {E : Value → Shared → Prop} {i : Nat} {x : Str} {v : V} {u : Value} {Q : Unit → Shared → Prop} (I : Inv X pins σ H s) (hN : X.N.Nodup) (hi : X.N[i]? = some x) (hx : Loc X.env.scope x) (r : RelV v u)
    (h : ∀ s', Inv X pins (σ.set i (some v)) H s' → Q () s') (hf : X.fn x = true ∨ X.env.scope.names.lookup x = some .local := by first | exact .inl rfl | exact .inr rfl | assumption) : wpAny M A (storeName X.env x u) Q E s :=
  store_ok2 I hN hi hx r (fun s' I' _ => h s' I') hf
theorem Inv.call' {s' : Shared} {ch : List Addr} (I : Inv X pins σ H s) (ho : s'.os = s.os) (u : Un (frs X.stack) ch H H' s.heap s'.heap) (hok : HOk X.prog X.w H' s'.heap) (hg : AllBare s'.gens)
    (hch : ∀ b ∈ ch, (b ∈ X.ex ∨ X.s₀.heap.objs.size ≤ b) ∧ b ≠ X.env.locals ∧ (∀ x c, X.env.cells.lookup x = some c → c ≠ b) ∧ ∀ p ∈ X.pn ++ pins, p.1 ≠ b) : Inv X pins σ H' s' := by
  obtain ⟨h', g', d', t', o'⟩ := s'
  have e : o' = s.os := ho
  subst e
  exact I.call (g' := g') (t' := t') (d' := d') u hok hg hch
end
abbrev XK := Value → Option Addr → Hp → Prop
abbrev St := List (Option V)
abbrev VK := V → Hp → Prop
abbrev TE := St → Hp → VK → Prop
abbrev TT := St → Hp → (Bool → Hp → Prop) → Prop
abbrev TA := St → Hp → (List V → Hp → Prop) → Prop
structure Ends where
  nx : St → Hp → Prop
  rt : VK
  bk : St → Hp → Prop := fun _ _ => False
  ct : St → Hp → Prop := fun _ _ => False
abbrev TS := Ends → St → Hp → Prop
def EP (X : Cx) (pins : List (Addr × Obj)) (σ : St) (Q : VK) (u : Value) (s' : Shared) : Prop := ∃ v H', Inv X pins σ H' s' ∧ RelV v u ∧ Q v H'
def TP (X : Cx) (pins : List (Addr × Obj)) (σ : St) (Q : Bool → Hp → Prop) (b : Bool) (s' : Shared) : Prop := ∃ H', Inv X pins σ H' s' ∧ Q b H'
def AP (X : Cx) (pins : List (Addr × Obj)) (σ : St) (Q : List V → Hp → Prop) (us : List Value) (s' : Shared) : Prop := ∃ vs H', Inv X pins σ H' s' ∧ Vals vs us ∧ Q vs H'
def SP (X : Cx) (pins : List (Addr × Obj)) (D : Ends) (f : Flow) (s' : Shared) : Prop :=
  match f with
  | .next => ∃ σ' H', Inv X pins σ' H' s' ∧ D.nx σ' H'
  | .brk => ∃ σ' H', Inv X pins σ' H' s' ∧ D.bk σ' H'
  | .cont => ∃ σ' H', Inv X pins σ' H' s' ∧ D.ct σ' H'
  | .ret u => ∃ v σ' H', Inv X pins σ' H' s' ∧ RelV v u ∧ D.rt v H'
def PE (X : Cx) (e : Expr) (t : TE) : Prop :=
  ∀ (pins : List (Addr × Obj)) (s : Shared) (σ : St) (H : Hp) (Q : VK), Inv X pins σ H s → t σ H Q → wpAny (model X.prog X.w) X.A (eval e X.env) (EP X pins σ Q) X.xe s
def PT (X : Cx) (e : Expr) (t : TT) : Prop :=
  ∀ (pins : List (Addr × Obj)) (s : Shared) (σ : St) (H : Hp) (Q : Bool → Hp → Prop), Inv X pins σ H s → t σ H Q → wpAny (model X.prog X.w) X.A (isTrue e X.env (eval e X.env)) (TP X pins σ Q) X.xe s
def PW (X : Cx) (e : Expr) (t : TT) : Prop :=
  ∀ (whole : Sem Value) (pins : List (Addr × Obj)) (s : Shared) (σ : St) (H : Hp) (Q : Bool → Hp → Prop), Inv X pins σ H s → t σ H Q → wpAny (model X.prog X.w) X.A (isTrue e X.env whole) (TP X pins σ Q) X.xe s
theorem PW.pt {X : Cx} {e : Expr} {t : TT} (h : PW X e t) : PT X e t := h _
def PA (X : Cx) (es : List Expr) (t : TA) : Prop :=
  ∀ (pos : Pos) (pins : List (Addr × Obj)) (s : Shared) (σ : St) (H : Hp) (Q : List V → Hp → Prop), Inv X pins σ H s → t σ H Q → wpAny (model X.prog X.w) X.A (spliced (backTo pos (starEach es X.env))) (AP X pins σ Q) X.xe s
def PS (X : Cx) (st : Stmt) (t : TS) : Prop :=
  ∀ (pins : List (Addr × Obj)) (s : Shared) (σ : St) (H : Hp) (D : Ends), Inv X pins σ H s → t D σ H → wpAny (model X.prog X.w) X.A (exec st X.env) (SP X pins D) X.xe s
def PSs (X : Cx) (st : List Stmt) (t : TS) : Prop :=
  ∀ (pins : List (Addr × Obj)) (s : Shared) (σ : St) (H : Hp) (D : Ends), Inv X pins σ H s → t D σ H → wpAny (model X.prog X.w) X.A (execs st X.env) (SP X pins D) X.xe s
theorem thn {α : Type} {t : Sem α} {Q Q' : α → Shared → Prop} {M : Model} {A : Around} {E : Value → Shared → Prop} {s : Shared} (h : wpAny M A t Q E s) (hQ : ∀ a s, Q a s → Q' a s) : wpAny M A t Q' E s := wpAny_mono h hQ fun _ _ x => x
end L2
namespace L2
open PySem PySem.Spec PyProof.Rows
section
variable {X : Cx}
def tVar (i : Nat) : TE := fun σ H Q => ∃ v, σ[i]? = some (some v) ∧ Q v H
def tC (v : V) : TE := fun _ H Q => Q v H
theorem pe_var {i : Nat} {x : Str} {pos : Pos} (hN : X.N[i]? = some x) (hv : Vis X.env.scope x) (hd : (x == ("__debug__" : Str)) = false := by decide) (hcd : (x == ("__classdict__" : Str)) = false := by decide) : PE X (.Name x pos) (tVar i) := by
  intro pins s σ H Q I h
  obtain ⟨v, e, h⟩ := h
  obtain ⟨m, hn, hl⟩ := I.loc
  obtain ⟨u, r, l⟩ := hl i x v hN e hv
  have fin : EP X pins σ Q u s := ⟨v, H, I, r, h⟩
  rcases l with ⟨hk, hm⟩ | ⟨hk, c, hc, hcell⟩
  · exact wpAny_Name (wpAny_loadName_local I.ok.kind hk hn hm fin) hd
  · rcases hk with hk | hk
    · exact wpAny_Name (wpAny_loadName_cell I.ok.kind hk hc hcell fin) hd
    · exact wpAny_Name (wpAny_loadName_free I.ok.kind hk hc hcell fin hcd) hd
theorem pe_int {i j pos} : PE X (.Constant (.int i) j pos) (tC (.int i)) := fun _ _ _ H _ I h => wpAny_Constant_int ⟨.int i, H, I.tok _, ⟨_, rfl⟩, h⟩
theorem pe_bl {b j pos} : PE X (.Constant (.bool b) j pos) (tC (.bl b)) := fun _ _ _ H _ I h => Constant_bool ⟨.bl b, H, I, rfl, h⟩
theorem pe_non {j pos} : PE X (.Constant .none j pos) (tC .non) := fun _ _ _ H _ I h => Constant_none ⟨.non, H, I, rfl, h⟩
theorem pe_str {x j pos} : PE X (.Constant (.str x) j pos) (tC (.str x)) := fun _ _ _ H _ I h => Calls.Constant_str ⟨.str x, H, I.tok _, ⟨_, rfl⟩, h⟩
def Gl (X : Cx) (x : Str) : Prop := X.env.kindOf x = some .globalImplicit
theorem ld_glob {E : Value → Shared → Prop} {pins : List (Addr × Obj)} {s : Shared} {σ : St} {H : Hp} {x : Str} {u : Value} {pos : Pos} {Q : Value → Shared → Prop} (I : Inv X pins σ H s) (hg : Gl X x) (hm : X.mg x = some u) (h : Q u s)
    (hd : (x == ("__debug__" : Str)) = false := by decide) : wpAny (model X.prog X.w) X.A (eval (.Name x pos) X.env) Q E s :=
  Calls.Name_function_global I.ok.kind hg (Calls.loadGlobal_global (by rw [I.ok.glob]; exact I.mod.glob.keeps I.bk) hm h) hd
theorem ld_blt {E : Value → Shared → Prop} {pins : List (Addr × Obj)} {s : Shared} {σ : St} {H : Hp} {x : Str} {u : Value} {pos : Pos} {Q : Value → Shared → Prop} (I : Inv X pins σ H s) (hg : Gl X x) (hm : X.mg x = none) (hv : bootBuiltins x = some u) (h : Q u s)
    (hn : x ≠ "__name__" := by decide) (hd : (x == ("__debug__" : Str)) = false := by decide) : wpAny (model X.prog X.w) X.A (eval (.Name x pos) X.env) Q E s := by
  obtain ⟨mb, h1, h2⟩ := I.mod.blt
  exact Calls.Name_function_global I.ok.kind hg (Calls.loadGlobal_builtin (by rw [I.ok.glob]; exact I.mod.glob.keeps I.bk) hm (by rw [I.ok.blt]; exact h1.keeps I.bk) ((h2 x hn).trans hv) h) hd
theorem pe_glob {x : Str} {v : V} {u : Value} {pos : Pos} (hg : Gl X x) (hm : X.mg x = some u) (r : RelV v u) (hd : (x == ("__debug__" : Str)) = false := by decide) : PE X (.Name x pos) (tC v) :=
  fun _ _ _ H _ I h => ld_glob I hg hm ⟨v, H, I, r, h⟩ hd
theorem pe_bltn {x : Str} {v : V} {u : Value} {pos : Pos} (hg : Gl X x) (hm : X.mg x = none) (hv : bootBuiltins x = some u) (r : RelV v u) (hn : x ≠ "__name__" := by decide) (hd : (x == ("__debug__" : Str)) = false := by decide) : PE X (.Name x pos) (tC v) :=
  fun _ _ _ H _ I h => ld_blt I hg hm hv ⟨v, H, I, r, h⟩ hn hd
def t2I (ta tb : TE) (k : Int → Int → Hp → Prop) : St → Hp → Prop := fun σ H => ta σ H fun x H1 => tb σ H1 fun y H2 => ∃ i j, x = .int i ∧ y = .int j ∧ k i j H2
def tAdd (ta tb : TE) : TE := fun σ H Q => t2I ta tb (fun i j H2 => Q (.int (i + j)) H2) σ H
def tSub (ta tb : TE) : TE := fun σ H Q => t2I ta tb (fun i j H2 => Q (.int (i - j)) H2) σ H
def tMul (ta tb : TE) : TE := fun σ H Q => t2I ta tb (fun i j H2 => (-(2 ^ 64) < i ∧ i < 2 ^ 64) ∧ Q (.int (i * j)) H2) σ H
variable {a b : Expr} {ta tb : TE} {pos : Pos}
def PC (X : Cx) (op : CmpOp) (a b : Expr) (t : TE) : Prop :=
  ∀ (pins : List (Addr × Obj)) (s : Shared) (σ : St) (H : Hp) (Q : VK), Inv X pins σ H s → t σ H Q →
    wpAny (model X.prog X.w) X.A (eval a X.env) (fun v s₁ => wpAny (model X.prog X.w) X.A (eval b X.env) (fun u s₂ => wpAny (model X.prog X.w) X.A (compareOp op v u) (EP X pins σ Q) X.xe s₂) X.xe s₁) X.xe s
def tCmp (p : Int → Int → Bool) (ta tb : TE) : TE := fun σ H Q => t2I ta tb (fun i j H2 => Q (.bl (p i j)) H2) σ H
abbrev tLt : TE → TE → TE := tCmp fun i j => decide (i < j)
abbrev tLe : TE → TE → TE := tCmp fun i j => decide (i ≤ j)
abbrev tGt : TE → TE → TE := tCmp fun i j => decide (j < i)
abbrev tGe : TE → TE → TE := tCmp fun i j => decide (j ≤ i)
abbrev tEqI : TE → TE → TE := tCmp fun i j => decide (i = j)
abbrev tNeI : TE → TE → TE := tCmp fun i j => !decide (i = j)
def tIsN (ta : TE) : TE := fun σ H Q => ta σ H fun x H1 => Q (.bl (decide (x = .non))) H1
def tNotN (ta : TE) : TE := fun σ H Q => ta σ H fun x H1 => Q (.bl (!decide (x = .non))) H1
def tB (t : TE) : TT := fun σ H Q => t σ H fun x H1 => ∃ c, x = .bl c ∧ Q c H1
theorem pt_val {e : Expr} {t : TE} (h : PE X e t) (he : ∀ whole, isTrue e X.env whole = (do let v ← whole; standAt e.pos; holding [v] (truthy v)) := by intro _; rfl) : PT X e (tB t) := by
  intro pins s σ H Q I hw
  refine isTrue_plain (thn (h pins s σ H _ I hw) fun v s1 ⟨x, H1, I1, r1, q1⟩ => ?_) (he _)
  obtain ⟨d, rfl, q⟩ := q1
  cases r1
  exact wpAny_truthy_bool ⟨H1, I1, q⟩
variable {tA tB' : TT} {rest : List Expr}
def tAnd (t u : TT) : TT := fun σ H Q => t σ H fun c H1 => if c = true then u σ H1 Q else Q false H1
def tOr (t u : TT) : TT := fun σ H Q => t σ H fun c H1 => if c = true then Q true H1 else u σ H1 Q
def tNot (t : TT) : TT := fun σ H Q => t σ H fun c H1 => Q (!c) H1
theorem pw_and1 (ha : PT X a tA) : PW X (.BoolOp .And [a] pos) tA := by
  intro wh pins s σ H Q I h
  refine isTrue_and (thn (ha pins s σ H Q I h) fun c s1 e => ?_)
  cases c with
  | true => exact isTrue_and_nil e
  | false => exact e
theorem pw_or1 (ha : PT X a tA) : PW X (.BoolOp .Or [a] pos) tA := by
  intro wh pins s σ H Q I h
  refine isTrue_or (thn (ha pins s σ H Q I h) fun c s1 e => ?_)
  cases c with
  | false => exact isTrue_or_nil e
  | true => exact e
theorem pw_and (ha : PT X a tA) (hb : PW X (.BoolOp .And (b :: rest) pos) tB') : PW X (.BoolOp .And (a :: b :: rest) pos) (tAnd tA tB') := by
  intro wh pins s σ H Q I h
  refine isTrue_and (thn (ha pins s σ H _ I h) fun c s1 ⟨H1, I1, q1⟩ => ?_)
  cases c with
  | true => exact hb wh pins s1 σ H1 Q I1 q1
  | false => exact ⟨H1, I1, q1⟩
theorem pw_or (ha : PT X a tA) (hb : PW X (.BoolOp .Or (b :: rest) pos) tB') : PW X (.BoolOp .Or (a :: b :: rest) pos) (tOr tA tB') := by
  intro wh pins s σ H Q I h
  refine isTrue_or (thn (ha pins s σ H _ I h) fun c s1 ⟨H1, I1, q1⟩ => ?_)
  cases c with
  | true => exact ⟨H1, I1, q1⟩
  | false => exact hb wh pins s1 σ H1 Q I1 q1
theorem pt_not (ha : PT X a tA) : PT X (.UnaryOp .Not a pos) (tNot tA) := by
  intro pins s σ H Q I h
  exact isTrue_not (ha pins s σ H (fun c H1 => Q (!c) H1) I h)
def tAndV (ta tb : TE) : TE := fun σ H Q => ta σ H fun x H1 => ∃ c, x = .bl c ∧ if c = true then tb σ H1 Q else Q (.bl false) H1
def tOrV (ta tb : TE) : TE := fun σ H Q => ta σ H fun x H1 => ∃ c, x = .bl c ∧ if c = true then Q (.bl true) H1 else tb σ H1 Q
def tNotV (ta : TE) : TE := fun σ H Q => ta σ H fun x H1 => ∃ c, x = .bl c ∧ Q (.bl (!c)) H1
def tIf (t : TT) (ta tb : TE) : TE := fun σ H Q => t σ H fun c H1 => if c = true then ta σ H1 Q else tb σ H1 Q
theorem pe_ifExp {c : Expr} (hc : PT X c tA) (ha : PE X a ta) (hb : PE X b tb) : PE X (.IfExp c a b pos) (tIf tA ta tb) := by
  intro pins s σ H Q I h
  refine wpAny_IfExp (thn (hc pins s σ H _ I h) fun d s1 ⟨H1, I1, q1⟩ => ?_)
  cases d with
  | true => exact ha pins s1 σ H1 Q I1 q1
  | false => exact hb pins s1 σ H1 Q I1 q1
end
end L2
namespace L2
open PySem PySem.Spec PyProof.Rows
def SqL (K : PySem.W.Frag) (H : Hp) (a : Addr) (xs : List V) : Prop :=
  Rd H a (.lst xs) ∨
    ∃ (o : Obj) (its : Array Value) (n : Nat), K.lookup a = some o ∧ o.cls = .type "list" ∧ o.dict = none ∧ o.data = .seq its n ∧ its.size ≤ sizeLine ∧ Vals xs its.toList
def SqT (K : PySem.W.Frag) (H : Hp) (a : Addr) (xs : List V) : Prop :=
  Rd H a (.tup xs) ∨
    ∃ (o : Obj) (its : Array Value) (n : Nat), K.lookup a = some o ∧ o.cls = .type "tuple" ∧ o.data = .seq its n ∧ its.size ≤ sizeLine ∧ Vals xs its.toList
def absV : Value → Option V
  | .none => some .non
  | .bool b => some (.bl b)
  | .int i _ => some (.int i)
  | .str x _ => some (.str x)
  | .bytes b _ => some (.byt b)
  | .float b _ => some (.flt b)
  | .ref a => some (.ref a)
  | .type n => some (.ty n)
  | _ => none
theorem RelV.abs {x : V} {u : Value} (r : RelV x u) : absV u = some x := by
  cases x with
  | non => cases r; rfl
  | bl _ => cases r; rfl
  | int _ => obtain ⟨t, rfl⟩ := r; rfl
  | str _ => obtain ⟨t, rfl⟩ := r; rfl
  | byt _ => obtain ⟨t, rfl⟩ := r; rfl
  | flt _ => obtain ⟨t, rfl⟩ := r; rfl
  | ref _ => cases r; rfl
  | ty _ => cases r; rfl
theorem RelV.inj {x y : V} {u : Value} (r : RelV x u) (q : RelV y u) : x = y := Option.some.inj (r.abs.symm.trans q.abs)
theorem Vals.inj : ∀ {xs ys : List V} {us : List Value}, Vals xs us → Vals ys us → xs = ys
  | _, _, _, .nil, .nil => rfl
  | _, _, _, .cons r t, .cons r' t' => by rw [r.inj r', Vals.inj t t']
section
variable {X : Cx} {pins : List (Addr × Obj)} {σ : St} {H : Hp} {s : Shared} {a : Addr} {xs ys : List V}
theorem SqL.of {K : PySem.W.Frag} (h : H a = some (.lst xs)) : SqL K H a xs := .inl (.inl h)
theorem SqT.of {K : PySem.W.Frag} (h : H a = some (.tup xs)) : SqT K H a xs := .inl (.inl h)
theorem Inv.list (I : Inv X pins σ H s) (h : SqL X.K H a xs) : ∃ its : List Value, Vals xs its ∧ PlainL s.heap a its.toArray ∧ xs.length ≤ sizeLine := by
  rcases h with h | ⟨o, its, n, hk, hc, hd, hs, hz, r⟩
  · obtain ⟨z, its, n, r, e⟩ := h.ok I.hok
    exact ⟨its, r, ⟨_, n, e, rfl, rfl, rfl⟩, z⟩
  · refine ⟨its.toList, r, ⟨o, n, I.kIn a o hk, hc, hd, by simpa using hs⟩, ?_⟩
    have e := r.length
    simp only [Array.length_toList] at e
    omega
theorem Inv.tuple (I : Inv X pins σ H s) (h : SqT X.K H a xs) : ∃ its : List Value, Vals xs its ∧ IsTup s.heap a its.toArray ∧ xs.length ≤ sizeLine := by
  rcases h with h | ⟨o, its, n, hk, hc, hs, hz, r⟩
  · obtain ⟨z, its, r, p⟩ := h.ok I.hok
    exact ⟨its, r, p, z⟩
  · refine ⟨its.toList, r, ⟨o, I.kIn a o hk, hc, n, by simpa using hs⟩, ?_⟩
    have e := r.length
    simp only [Array.length_toList] at e
    omega
theorem Inv.list_inj (I : Inv X pins σ H s) (h : SqL X.K H a xs) (h' : SqL X.K H a ys) : xs = ys := by
  obtain ⟨its, r, ⟨o, n, e, _, _, d⟩, _⟩ := I.list h
  obtain ⟨its', r', ⟨o', n', e', _, _, d'⟩, _⟩ := I.list h'
  rw [e] at e'; cases e'
  rw [d] at d'
  injection d' with d1 _
  have : its = its' := by simpa using congrArg Array.toList d1
  subst this
  exact r.inj r'
theorem Inv.tuple_inj (I : Inv X pins σ H s) (h : SqT X.K H a xs) (h' : SqT X.K H a ys) : xs = ys := by
  obtain ⟨its, r, ⟨o, e, _, n, d⟩, _⟩ := I.tuple h
  obtain ⟨its', r', ⟨o', e', _, n', d'⟩, _⟩ := I.tuple h'
  rw [e] at e'; cases e'
  rw [d] at d'
  injection d' with d1 _
  have : its = its' := by simpa using congrArg Array.toList d1
  subst this
  exact r.inj r'
end
abbrev Cx.wish (X : Cx) (E : Value → Shared → Prop) : Cx := { X with xe := E }
abbrev Cx.nox (X : Cx) : Cx := X.wish fun _ _ => False
theorem Cx.Ok.wish {X : Cx} (ok : X.Ok) (E : Value → Shared → Prop) : (X.wish E).Ok :=
  ⟨ok.mod, ok.kind, ok.glob, ok.blt, ok.above, ok.inj, ok.has, ok.cab, ok.hd, ok.frames, ok.stk, ok.exf, ok.bs, ok.bsz, ok.noex, ok.exfs, ok.funs, ok.frf⟩
theorem Cx.Ok.unwish {X : Cx} {E : Value → Shared → Prop} (ok : (X.wish E).Ok) : X.Ok :=
  ⟨ok.mod, ok.kind, ok.glob, ok.blt, ok.above, ok.inj, ok.has, ok.cab, ok.hd, ok.frames, ok.stk, ok.exf, ok.bs, ok.bsz, ok.noex, ok.exfs, ok.funs, ok.frf⟩
section
variable {X : Cx} {pins : List (Addr × Obj)} {σ : St} {H : Hp} {s : Shared} {E : Value → Shared → Prop}
theorem Inv.wish (I : Inv X pins σ H s) (E : Value → Shared → Prop) : Inv (X.wish E) pins σ H s := ⟨I.ok.wish E, I.os, I.bare, I.base, I.loc, I.cell, I.free, I.freeC, I.pin, I.hok, I.len⟩
theorem Inv.unwish (I : Inv (X.wish E) pins σ H s) : Inv X pins σ H s := ⟨I.ok.unwish, I.os, I.bare, I.base, I.loc, I.cell, I.free, I.freeC, I.pin, I.hok, I.len⟩
theorem SP.unwish {D : Ends} {f : Flow} {s' : Shared} (h : SP (X.wish E) pins D f s') : SP X pins D f s' := by
  cases f with
  | next => obtain ⟨σ', H', I, q⟩ := h; exact ⟨σ', H', I.unwish, q⟩
  | brk => obtain ⟨σ', H', I, q⟩ := h; exact ⟨σ', H', I.unwish, q⟩
  | cont => obtain ⟨σ', H', I, q⟩ := h; exact ⟨σ', H', I.unwish, q⟩
  | ret u => obtain ⟨v, σ', H', I, r, q⟩ := h; exact ⟨v, σ', H', I.unwish, r, q⟩
theorem PE.nox {e : Expr} {t : TE} (h : PE X.nox e t) : PE X e t := fun pins s σ H Q I hw =>
  wpAny_mono (h pins s σ H Q (I.wish _) hw) (fun _ _ ⟨v, H', I', r, q⟩ => ⟨v, H', I'.unwish, r, q⟩) fun _ _ z => False.elim z
theorem PT.nox {e : Expr} {t : TT} (h : PT X.nox e t) : PT X e t := fun pins s σ H Q I hw =>
  wpAny_mono (h pins s σ H Q (I.wish _) hw) (fun _ _ ⟨H', I', q⟩ => ⟨H', I'.unwish, q⟩) fun _ _ z => False.elim z
theorem PSs.nox {st : List Stmt} {t : TS} (h : PSs X.nox st t) : PSs X st t := fun pins s σ H D I hw =>
  wpAny_mono (h pins s σ H D (I.wish _) hw) (fun _ _ q => q.unwish) fun _ _ z => False.elim z
end
section
variable {X : Cx} {st : Stmt} {rest : List Stmt} {t u : TS} {e : Expr} {te : TE} {pos : Pos}
def tNext : TS := fun D σ H => D.nx σ H
def tSeq (t u : TS) : TS := fun D σ H => t { D with nx := u D } σ H
theorem pss_nil : PSs X [] tNext := fun _ _ σ H _ I h => wpAny_execs_nil ⟨σ, H, I, h⟩
theorem pss_cons (h1 : PS X st t) (h2 : PSs X rest u) : PSs X (st :: rest) (tSeq t u) := by
  intro pins s σ H D I h
  refine wpAny_execs_cons (thn (h1 pins s σ H { D with nx := u D } I h) fun f s1 q => ?_)
  cases f with
  | next =>
    obtain ⟨σ', H', I', q⟩ := q
    exact h2 pins s1 σ' H' D I' q
  | ret v => exact q
  | brk => exact q
  | cont => exact q
theorem pss_one (h1 : PS X st t) : PSs X [st] t := by
  intro pins s σ H D I h
  refine wpAny_execs_cons (thn (h1 pins s σ H D I h) fun f s1 q => ?_)
  cases f with
  | next => exact wpAny_execs_nil q
  | ret v => exact q
  | brk => exact q
  | cont => exact q
def tBreak : TS := fun D σ H => D.bk σ H
def tCont : TS := fun D σ H => D.ct σ H
theorem Inv.quiet {pins : List (Addr × Obj)} {σ : St} {H : Hp} {s : Shared} (I : Inv X pins σ H s) : interactive X.env = false := by simp [interactive, I.ok.kind]
def tDrop (te : TE) : TS := fun D σ H => te σ H fun _ H1 => D.nx σ H1
theorem ps_expr (he : PE X e te) (hs : swapsWith e none pos.line X.env = pure false := by rfl) : PS X (.Expr e pos) (tDrop te) := by
  intro pins s σ H D I h
  exact wpAny_Expr_any (thn (he pins s σ H _ I h) fun v s1 ⟨x, H1, I1, r1, q1⟩ => ⟨σ, H1, I1, q1⟩) I.quiet hs
def tRet (te : TE) : TS := fun D σ H => te σ H D.rt
theorem ps_ret (he : PE X e te) : PS X (.Return (some e) pos) (tRet te) := by
  intro pins s σ H D I h
  exact wpAny_Return_some (thn (he pins s σ H _ I h) fun v s1 ⟨x, H1, I1, r1, q1⟩ => ⟨x, σ, H1, I1, r1, q1⟩)
def tRetN : TS := fun D _ H => D.rt .non H
def tIfS (c : TT) (t u : TS) : TS := fun D σ H => c σ H fun b H1 => if b = true then t D σ H1 else u D σ H1
theorem ps_if {c : Expr} {a b : List Stmt} {tc : TT} (hc : PT X c tc) (ha : PSs X a t) (hb : PSs X b u) : PS X (.If c a b pos) (tIfS tc t u) := by
  intro pins s σ H D I h
  refine wpAny_If (thn (hc pins s σ H _ I h) fun d s1 ⟨H1, I1, q1⟩ => ?_)
  cases d with
  | true => exact ha pins s1 σ H1 D I1 q1
  | false => exact hb pins s1 σ H1 D I1 q1
def tNever : TS := fun _ _ _ => False
end
abbrev TG := V → St → Hp → (St → Hp → Prop) → Prop
abbrev TGs := List V → St → Hp → (St → Hp → Prop) → Prop
def PG (X : Cx) (target : Expr) (t : TG) : Prop :=
  ∀ (pins : List (Addr × Obj)) (s : Shared) (σ : St) (H : Hp) (v : V) (u : Value) (Q : St → Hp → Prop), Inv X pins σ H s → RelV v u → t v σ H Q →
    wpAny (model X.prog X.w) X.A (assign target X.env u) (fun _ s' => ∃ σ' H', Inv X pins σ' H' s' ∧ Q σ' H') X.xe s
def PGs (X : Cx) (ts : List Expr) (t : TGs) : Prop :=
  ∀ (pins : List (Addr × Obj)) (s : Shared) (σ : St) (H : Hp) (vs : List V) (us : List Value) (Q : St → Hp → Prop), Inv X pins σ H s → Vals vs us → t vs σ H Q →
    wpAny (model X.prog X.w) X.A (assignInOrder ((assignEach ts X.env).map (·.2)) us) (fun _ s' => ∃ σ' H', Inv X pins σ' H' s' ∧ Q σ' H') X.xe s
abbrev TSet := V → V → V → Hp → (Hp → Prop) → Prop
def PSet (X : Cx) (t : TSet) : Prop :=
  ∀ (pins : List (Addr × Obj)) (s : Shared) (σ : St) (H : Hp) (o i v : V) (ov iv u : Value) (Q : Hp → Prop), Inv X pins σ H s → RelV o ov → RelV i iv → RelV v u → t o i v H Q →
    wpAny (model X.prog X.w) X.A (setItem ov iv u) (fun _ s' => ∃ H', Inv X pins σ H' s' ∧ Q H') X.xe s
abbrev TIp := V → V → Hp → VK → Prop
def PIp (X : Cx) (op : Operator) (t : TIp) : Prop :=
  ∀ (pins : List (Addr × Obj)) (s : Shared) (σ : St) (H : Hp) (x y : V) (v u : Value) (Q : VK), Inv X pins σ H s → RelV x v → RelV y u → t x y H Q →
    wpAny (model X.prog X.w) X.A (inplaceOp op v u) (EP X pins σ Q) X.xe s
section
variable {X : Cx} {pos : Pos}
def gName (i : Nat) : TG := fun v σ H Q => Q (σ.set i (some v)) H
theorem pg_name {i : Nat} {x : Str} (hN : X.N.Nodup) (hi : X.N[i]? = some x) (hx : Loc X.env.scope x) (hf : X.fn x = true ∨ X.env.scope.names.lookup x = some .local := by first | exact .inl rfl | exact .inr rfl | assumption) : PG X (.Name x pos) (gName i) := by
  intro pins s σ H v u Q I r h
  exact wpAny_assign_Name (store_ok I hN hi hx r (fun s' I' => ⟨_, H, I', h⟩) hf)
def gNil : TGs := fun vs σ H Q => vs = [] ∧ Q σ H
def gCons (t : TG) (u : TGs) : TGs := fun vs σ H Q => ∃ v r, vs = v :: r ∧ t v σ H fun σ' H' => u r σ' H' Q
theorem pgs_nil : PGs X [] gNil := by
  intro pins s σ H vs us Q I r h
  obtain ⟨e, h⟩ := h
  subst e
  cases r
  exact assignInOrder_nil ⟨σ, H, I, h⟩
theorem pgs_cons {e : Expr} {es : List Expr} {t : TG} {u : TGs} (h1 : PG X e t) (h2 : PGs X es u)
    (hs : (assignEach (e :: es) X.env).map (·.2) = assign e X.env :: (assignEach es X.env).map (·.2) := by rfl) : PGs X (e :: es) (gCons t u) := by
  intro pins s σ H vs us Q I r h
  obtain ⟨v, vr, e1, h⟩ := h
  subst e1
  cases r with
  | cons r rr =>
    rw [hs]
    refine assignInOrder_cons (thn (h1 pins s σ H _ _ _ I r h) fun _ s1 ⟨σ1, H1, I1, q1⟩ => ?_)
    exact h2 pins s1 σ1 H1 _ _ Q I1 rr q1
def gTup (K : PySem.W.Frag) (n : Nat) (t : TGs) : TG := fun v σ H Q => ∃ a xs, v = .ref a ∧ SqT K H a xs ∧ xs.length = n ∧ t xs σ H Q
theorem pg_tup {es : List Expr} {k : Nat} {t : TGs} {n : Nat} (hc : X.calm = true) (h : PGs X es t)
    (hn : (assignEach es X.env).length = n := by rfl) (hst : (assignEach es X.env).findIdx? (·.1) = none := by rfl) : PG X (.Tuple es k pos) (gTup X.K n t) := by
  intro pins s σ H v u Q I r hw
  obtain ⟨a, xs, e1, hq, hl, hw⟩ := hw
  subst e1
  cases r
  obtain ⟨its, rv, ht, hz⟩ := I.tuple hq
  refine assign_Tuple_tuple (I.ok.hd hc) ht (by simp [hn, ← hl, rv.length]) hst fun h' hx => ?_
  have I1 : Inv X pins σ H { s with heap := h' } := I.kept (t' := s.toks) fun b o e => hx b o (Nat.ne_of_lt (Heap.lt_size e)) e
  exact h pins _ σ H xs _ Q I1 (by simpa using rv) hw
def gSub (to ti : TE) (t : TSet) : TG := fun v σ H Q => to σ H fun o H1 => ti σ H1 fun i H2 => t o i v H2 fun H3 => Q σ H3
theorem pg_sub {o i : Expr} {to ti : TE} {t : TSet} (ho : PE X o to) (hi : PE X i ti) (hs : PSet X t)
    (ha : ∀ v, assign (.Subscript o i pos) X.env v = (do
      let ov ← holding [v] (eval o X.env)
      let iv ← holding [v, ov] (eval i X.env)
      standAt pos
      holding [v, ov, iv] (setItem ov iv v)
      release [v, ov, iv] []) := by intro _; rfl) : PG X (.Subscript o i pos) (gSub to ti t) := by
  intro pins s σ H v u Q I r h
  rw [ha]
  refine wpAny_bind (wpAny_holding (thn (ho pins s σ H _ I h) fun ov s1 ⟨x, H1, I1, r1, q1⟩ => ?_))
  refine wpAny_bind (wpAny_holding (thn (hi pins s1 σ H1 _ I1 q1) fun iv s2 ⟨y, H2, I2, r2, q2⟩ => ?_))
  refine wpAny_bind (wpAny_standAt (wpAny_bind (wpAny_holding (thn (hs pins s2 σ H2 x y v ov iv u _ I2 r1 r2 r q2) fun _ s3 ⟨H3, I3, q3⟩ => ?_))))
  exact wpAny_release ⟨σ, H3, I3, q3⟩
def tAsg (te : TE) (g : TG) : TS := fun D σ H => te σ H fun x H1 => g x σ H1 D.nx
theorem ps_asg {tg e : Expr} {te : TE} {g : TG} (he : PE X e te) (hg : PG X tg g) (hs : swapsWithSole [tg] e pos.line X.env = pure false := by rfl) (hw : swappedStores [tg] e X.env = pure none := by rfl)
    (h1 : (assignEach [tg] X.env).map (·.2) = [assign tg X.env] := by rfl) : PS X (.Assign [tg] e pos) (tAsg te g) := by
  intro pins s σ H D I h
  refine wpAny_Assign_stores (thn (he pins s σ H _ I h) fun v s1 ⟨x, H1, I1, r1, q1⟩ => ?_) hs hw
  rw [h1]
  exact thn (hg pins s1 σ H1 x v _ I1 r1 q1) fun _ s2 q => q
theorem ps_set {i : Nat} {x : Str} {e : Expr} {te : TE} {pos' : Pos} (hN : X.N.Nodup) (hi : X.N[i]? = some x) (hx : Loc X.env.scope x) (he : PE X e te) (hs : swapsWith e (some (.Name x pos')) pos.line X.env = pure false := by rfl) (hf : X.fn x = true ∨ X.env.scope.names.lookup x = some .local := by first | exact .inl rfl | exact .inr rfl | assumption) :
    PS X (.Assign [.Name x pos'] e pos) (tAsg te (gName i)) := by
  intro pins s σ H D I h
  refine wpAny_Assign_Name (thn (he pins s σ H _ I h) fun v s1 ⟨y, H1, I1, r1, q1⟩ => ?_) hs
  exact store_ok I1 hN hi hx r1 (fun s2 I2 => ⟨_, H1, I2, q1⟩) hf
def tPar (i j : Nat) (ta : TA) : TS := fun D σ H => ta σ H fun vs H1 => ∃ v w, vs = [v, w] ∧ D.nx ((σ.set i (some v)).set j (some w)) H1
def tAug (i : Nat) (te : TE) (ti : TIp) : TS := fun D σ H => ∃ x, σ[i]? = some (some x) ∧ te σ H fun y H1 => ti x y H1 fun z H2 => D.nx (σ.set i (some z)) H2
def tAugS (to ti te : TE) (tget : V → V → Hp → VK → Prop) (tip : TIp) (tset : TSet) : TS := fun D σ H => to σ H fun o H1 => ti σ H1 fun i H2 => tget o i H2 fun x H3 => te σ H3 fun y H4 => tip x y H4 fun z H5 => tset o i z H5 fun H6 => D.nx σ H6
def PGet (X : Cx) (t : V → V → Hp → VK → Prop) : Prop :=
  ∀ (pins : List (Addr × Obj)) (s : Shared) (σ : St) (H : Hp) (o i : V) (ov iv : Value) (Q : VK), Inv X pins σ H s → RelV o ov → RelV i iv → t o i H Q →
    wpAny (model X.prog X.w) X.A (getItem ov iv) (EP X pins σ Q) X.xe s
def ipI (f : Int → Int → Int) : TIp := fun x y H Q => ∃ i j, x = .int i ∧ y = .int j ∧ Q (.int (f i j)) H
end
section
variable {X : Cx} {pos : Pos}
def tWhile (c : TT) (tb : TS) : TS := fun D σ H => ∃ W : Nat → St → Hp → Prop, (∃ m, W m σ H) ∧ ∀ m σ H, W m σ H →
  c σ H fun b H1 => if b = true then ∃ N : St → Hp → Prop, (∀ σ' H', N σ' H' → ∃ m', m' < m ∧ W m' σ' H') ∧ tb { D with nx := N, ct := N, bk := D.nx } σ H1 else D.nx σ H1
theorem ps_while {c : Expr} {body : List Stmt} {tc : TT} {tb : TS} (hp : PassesOwn (model X.prog X.w) X.A X.env X.xe) (hc : PT X c tc) (hb : PSs X body tb) : PS X (.While c body [] pos) (tWhile tc tb) := by
  intro pins s σ H D I h
  obtain ⟨W, ⟨m0, w0⟩, turn⟩ := h
  refine wpAny_While (codeAny_whileLoop (fun n s' => ∃ σ' H', Inv X pins σ' H' s' ∧ W n σ' H') ?_ m0 ⟨σ, H, I, w0⟩)
  rintro n s1 ⟨σ1, H1, I1, w1⟩
  refine wpAny_passesOwn hp (thn (hc pins s1 σ1 H1 _ I1 (turn n σ1 H1 w1)) fun b s2 ⟨H2, I2, q2⟩ => ?_)
  cases b with
  | true =>
    obtain ⟨N, hN, q2⟩ := q2
    rw [if_pos rfl]
    refine wpAny_passesOwn hp (thn (hb pins s2 σ1 H2 _ I2 q2) fun f s3 q3 => ?_)
    cases f with
    | next =>
      obtain ⟨σ3, H3, I3, n3⟩ := q3
      obtain ⟨m', hm, w3⟩ := hN σ3 H3 n3
      exact ⟨m', hm, σ3, H3, I3, w3⟩
    | cont =>
      obtain ⟨σ3, H3, I3, n3⟩ := q3
      obtain ⟨m', hm, w3⟩ := hN σ3 H3 n3
      exact ⟨m', hm, σ3, H3, I3, w3⟩
    | brk => exact q3
    | ret v => exact q3
  | false =>
    rw [if_neg Bool.false_ne_true]
    exact wpAny_execs_nil ⟨σ1, H2, I2, q2⟩
end
structure It where
  go : Nat → Hp → Prop
  yld : Nat → Hp → V → Hp → Prop
  stop : Nat → Hp → Prop
def FpOk (X : Cx) (pins : List (Addr × Obj)) (H : Hp) (b : Addr) : Prop :=
  H b = none ∧ b ≠ X.env.locals ∧ b ∉ X.fs ∧ (b ∈ X.ex ∨ X.s₀.heap.objs.size ≤ b) ∧ (∀ x c, X.env.cells.lookup x = some c → c ≠ b) ∧ ∀ p ∈ X.pn ++ pins, p.1 ≠ b
theorem Inv.fpOk {X : Cx} {pins : List (Addr × Obj)} {σ : St} {H H' : Hp} {s : Shared} {b : Addr} (I : Inv X pins σ H s) (hb : s.heap.objs.size ≤ b) (hn : H' b = none) : FpOk X pins H' b := by
  refine ⟨hn, Nat.ne_of_gt (Nat.lt_of_lt_of_le I.lt hb), I.nofs hb, .inr (Nat.le_trans I.sz hb), fun x c e z => ?_, fun p hp z => ?_⟩
  · obtain ⟨v, q⟩ := I.cell x c e
    exact absurd (Nat.lt_of_lt_of_le q.lt (by rw [z]; exact hb)) (Nat.lt_irrefl _)
  · exact absurd (Nat.lt_of_lt_of_le (Heap.lt_size (I.pin p hp).1) (by rw [z]; exact hb)) (Nat.lt_irrefl _)
structure Turn (P : Program) (w : World) (K : PySem.W.Frag) (tg : Expr) (J : It) (fp : List Addr) (it : Addr) (tn : Nat → Heap → Prop) : Prop where
  mem : it ∈ fp
  obj : ∀ i h, tn i h → ∀ b ∈ fp, ∃ o, h.get? b = some o ∧ ∀ v, o.data ≠ .cell v
  keep : ∀ i h h', tn i h → (∀ b ∈ fp, ∀ o, h.get? b = some o → h'.get? b = some o) → tn i h'
  item : ∀ (X : Cx), X.prog = P → X.w = w → X.K = K → X.calm = true → ∀ (i : Nat) (pins : List (Addr × Obj)) (s : Shared) (σ : St) (H : Hp) (E : Value → Shared → Prop), Inv X pins σ H s → (∀ b ∈ fp, FpOk X pins H b) → tn i s.heap → J.go i H →
    wpAny (model P w) X.A (pyNext (.ref it)) (fun r s1 => ∃ u, r = some u ∧
      wpAny (model P w) X.A (letOwnedTupleGo tg (.ref it) u) (fun _ s2 => ∃ x H', Inv X pins σ H' s2 ∧ RelV x u ∧ J.yld i H x H' ∧ tn (i + 1) s2.heap ∧ ∀ b ∈ fp, H' b = none) E s1) E s
  done : ∀ (X : Cx), X.prog = P → X.w = w → X.K = K → X.calm = true → ∀ (i : Nat) (pins : List (Addr × Obj)) (s : Shared) (σ : St) (H : Hp) (E : Value → Shared → Prop), Inv X pins σ H s → (∀ b ∈ fp, FpOk X pins H b) → tn i s.heap → J.stop i H →
    wpAny (model P w) X.A (pyNext (.ref it)) (fun r s1 => r = none ∧ Inv X pins σ H s1) E s
  self : ∀ (A : Around) (i : Nat) (s : Shared) (Q : Value → Shared → Prop) (E : Value → Shared → Prop), tn i s.heap → Q (.ref it) s → wpAny (model P w) A (pyIter (.ref it)) Q E s
abbrev TI := St → Hp → (It → Hp → Prop) → Prop
def PIE (X : Cx) (pins : List (Addr × Obj)) (σ : St) (tg : Expr) (R : It → Hp → Prop) (itv : Value) (s2 : Shared) : Prop :=
  ∃ (it : Addr) (fp : List Addr) (tn : Nat → Heap → Prop) (J : It) (H' : Hp), itv = .ref it ∧ Inv X pins σ H' s2 ∧ Turn X.prog X.w X.K tg J fp it tn ∧ tn 0 s2.heap ∧ (∀ b ∈ fp, FpOk X pins H' b) ∧ R J H'
def PI (X : Cx) (tg iter : Expr) (wi : TI) : Prop :=
  ∀ (pins : List (Addr × Obj)) (s : Shared) (σ : St) (H : Hp) (R : It → Hp → Prop), Inv X pins σ H s → wi σ H R →
    wpAny (model X.prog X.w) X.A (eval iter X.env) (fun v s1 => wpAny (model X.prog X.w) X.A (pyIter v) (PIE X pins σ tg R) X.xe s1) X.xe s
theorem go_of {M : Model} {A : Around} {E : Value → Shared → Prop} {s : Shared} {tg : Expr} {it : Addr} {u : Value} {o : Obj} {n : String} {vs : Array Value} {Q : Unit → Shared → Prop} (ho : s.heap.get? it = some o) (hc : o.cls = .type n) (hd : o.data = .fields vs)
    (hn : ["enumerate", "zip", "dict_itemiterator", "dict_reverseitemiterator", "odict_iterator", "itertools.zip_longest", "itertools.pairwise"].contains n = false) (hQ : Q () s) : wpAny M A (letOwnedTupleGo tg (.ref it) u) Q E s := by
  unfold letOwnedTupleGo
  cases tg <;> first
    | exact wpAny_pure hQ
    | (cases u <;> first
        | exact wpAny_pure hQ
        | (refine wpAny_bind (wpAny_load ho ?_)
           rw [hc, hd]
           show wpAny M A (if (["enumerate", "zip", "dict_itemiterator", "dict_reverseitemiterator", "odict_iterator", "itertools.zip_longest", "itertools.pairwise"].contains n && vs[0]? == some (rawInt _)) = true then _ else _) Q E s
           rw [if_neg (by intro h; rw [hn, Bool.false_and] at h; cases h)]
           exact wpAny_pure hQ))
def Itl (K : PySem.W.Frag) (a : Addr) : It :=
  ⟨fun i H => ∃ xs x, SqL K H a xs ∧ xs[i]? = some x, fun i H x H' => H' = H ∧ ∀ xs, SqL K H a xs → xs[i]? = some x, fun i H => ∃ xs, SqL K H a xs ∧ xs.length ≤ i⟩
def Itt (K : PySem.W.Frag) (a : Addr) : It :=
  ⟨fun i H => ∃ xs x, SqT K H a xs ∧ xs[i]? = some x, fun i H x H' => H' = H ∧ ∀ xs, SqT K H a xs → xs[i]? = some x, fun i H => ∃ xs, SqT K H a xs ∧ xs.length ≤ i⟩
def Itr (lo : Int) (n : Nat) : It := ⟨fun i _ => i < n, fun i H x H' => H' = H ∧ x = .int (lo + i), fun i _ => n ≤ i⟩
theorem turn_list {P : Program} {w : World} {K : PySem.W.Frag} {tg : Expr} (a it : Addr) : Turn P w K tg (Itl K a) [it] it (fun i h => h.IsListIter it a i) where
  mem := by simp
  obj := fun i h st b hb => by
    have e : b = it := by simpa using hb
    subst e
    obtain ⟨o, e, c, d⟩ := st
    exact ⟨o, e, fun v z => by rw [d] at z; cases z⟩
  keep := fun i h h' st k => st.at fun o e => k it (by simp) o e
  item := by
    intro X hP hw hK hc i pins s σ H E I hf st hg
    subst hP hw hK
    obtain ⟨xs, x, hq, hx⟩ := hg
    obtain ⟨its, rv, p, hz⟩ := I.list hq
    obtain ⟨u, hu, ru⟩ := rv.get hx
    obtain ⟨f0, f1, f2, f3, f4, f5⟩ := hf it (by simp)
    refine wpAny_pyNext_list_item st p.isList (x := u) (by simpa using hu) fun h' st' sb => ?_
    have I1 : Inv X pins σ H { s with heap := h' } := I.turned (t' := s.toks) (fun b o hb e => (sb.2 b hb).trans e) f0 f1 f3 f4 f5
    obtain ⟨o, e, c, d⟩ := id st'
    exact ⟨u, rfl, go_of (s := { s with heap := h' }) e c d (by decide) ⟨x, H, I1, ru, ⟨rfl, fun ys hy => by rw [I.list_inj hy hq]; exact hx⟩, st', fun b hb => (hf b hb).1⟩⟩
  done := by
    intro X hP hw hK hc i pins s σ H E I hf st hg
    subst hP hw hK
    obtain ⟨xs, hq, hx⟩ := hg
    obtain ⟨its, rv, p, hz⟩ := I.list hq
    obtain ⟨f0, f1, f2, f3, f4, f5⟩ := hf it (by simp)
    have hl := rv.length
    exact wpAny_pyNext_list_end (I.ok.hd hc) st p.isList (by simp; omega) fun h' eb => ⟨rfl, I.turned (t' := s.toks) (fun b o hb e => eb b o hb e) f0 f1 f3 f4 f5⟩
  self := fun _ _ _ _ _ st h => wpAny_pyIter_listiter st h
theorem turn_tuple {P : Program} {w : World} {K : PySem.W.Frag} {tg : Expr} (a it : Addr) : Turn P w K tg (Itt K a) [it] it (fun i h => h.IsTupleIter it a i) where
  mem := by simp
  obj := fun i h st b hb => by
    have e : b = it := by simpa using hb
    subst e
    obtain ⟨o, e, c, d⟩ := st
    exact ⟨o, e, fun v z => by rw [d] at z; cases z⟩
  keep := fun i h h' st k => st.at fun o e => k it (by simp) o e
  item := by
    intro X hP hw hK hc i pins s σ H E I hf st hg
    subst hP hw hK
    obtain ⟨xs, x, hq, hx⟩ := hg
    obtain ⟨its, rv, p, hz⟩ := I.tuple hq
    obtain ⟨u, hu, ru⟩ := rv.get hx
    obtain ⟨f0, f1, f2, f3, f4, f5⟩ := hf it (by simp)
    refine wpAny_pyNext_tuple_item st (show s.heap.IsTuple a its.toArray from p) (x := u) (by simpa using hu) fun h' st' sb => ?_
    have I1 : Inv X pins σ H { s with heap := h' } := I.turned (t' := s.toks) (fun b o hb e => (sb.2 b hb).trans e) f0 f1 f3 f4 f5
    obtain ⟨o, e, c, d⟩ := id st'
    exact ⟨u, rfl, go_of (s := { s with heap := h' }) e c d (by decide) ⟨x, H, I1, ru, ⟨rfl, fun ys hy => by rw [I.tuple_inj hy hq]; exact hx⟩, st', fun b hb => (hf b hb).1⟩⟩
  done := by
    intro X hP hw hK hc i pins s σ H E I hf st hg
    subst hP hw hK
    obtain ⟨xs, hq, hx⟩ := hg
    obtain ⟨its, rv, p, hz⟩ := I.tuple hq
    obtain ⟨f0, f1, f2, f3, f4, f5⟩ := hf it (by simp)
    have hl := rv.length
    exact wpAny_pyNext_tuple_end (I.ok.hd hc) st (show s.heap.IsTuple a its.toArray from p) (by simp; omega) fun h' eb => ⟨rfl, I.turned (t' := s.toks) (fun b o hb e => eb b o hb e) f0 f1 f3 f4 f5⟩
  self := fun _ _ _ _ _ st h => wpAny_pyIter_tupleiter st h
theorem turn_range {P : Program} {w : World} {K : PySem.W.Frag} {tg : Expr} (it : Addr) (lo : Int) (n : Nat) : Turn P w K tg (Itr lo n) [it] it (fun i h => IsRangeIter h it (lo + (i : Nat) * 1) ((n : Int) - (i : Nat)) 1) where
  mem := by simp
  obj := fun i h st b hb => by
    have e : b = it := by simpa using hb
    subst e
    exact ⟨_, st, fun v z => by
      have z' : Data.fields _ = Data.cell v := z
      cases z'⟩
  keep := fun i h h' st k => k it (by simp) _ st
  item := by
    intro X hP hw hK hc i pins s σ H E I hf st hg
    subst hP hw hK
    obtain ⟨f0, f1, f2, f3, f4, f5⟩ := hf it (by simp)
    have W := Walks.range (prog := X.prog) (w := X.w) (I.ok.hd hc) it lo 1 n
    refine W.item i s _ _ hg st fun v h' tk hv st' kk => ?_
    obtain ⟨t, rfl⟩ := hv
    have I1 : Inv X pins σ H { s with heap := h', toks := tk } := I.turned (fun b o hb e => kk b o (by simpa using hb) e) f0 f1 f3 f4 f5
    refine ⟨_, rfl, go_of (s := { s with heap := h', toks := tk }) (n := "range_iterator") st' rfl rfl (by decide) ⟨.int (lo + i), H, I1, ⟨t, ?_⟩, ⟨rfl, rfl⟩, st', fun b hb => (hf b hb).1⟩⟩
    rw [Int.mul_one]
  done := by
    intro X hP hw hK hc i pins s σ H E I hf st hg
    subst hP hw hK
    obtain ⟨f0, f1, f2, f3, f4, f5⟩ := hf it (by simp)
    exact wpAny_pyNext_range_end (I.ok.hd hc) st (by have : n ≤ i := hg; omega) fun h' eb => ⟨rfl, I.turned (t' := s.toks) (fun b o hb e => eb b o hb e) f0 f1 f3 f4 f5⟩
  self := fun _ _ _ _ _ st h => wpAny_pyIter_rangeiter st h
end L2
namespace L2
open PySem PySem.Spec PyProof.Rows
section
variable {X : Cx} {tg : Expr}
def iList (K : PySem.W.Frag) (tl : TE) : TI := fun σ H R => tl σ H fun x H1 => ∃ a, x = .ref a ∧ (∃ xs, SqL K H1 a xs) ∧ R (Itl K a) H1
def iTup (K : PySem.W.Frag) (tl : TE) : TI := fun σ H R => tl σ H fun x H1 => ∃ a, x = .ref a ∧ (∃ xs, SqT K H1 a xs) ∧ R (Itt K a) H1
theorem pi_list {l : Expr} {tl : TE} (hl : PE X l tl) : PI X tg l (iList X.K tl) := by
  intro pins s σ H R I h
  refine thn (hl pins s σ H _ I h) fun v s1 ⟨x, H1, I1, r1, q1⟩ => ?_
  obtain ⟨a, e, ⟨xs, hq⟩, q⟩ := q1
  subst e
  cases r1
  obtain ⟨its, rv, p, hz⟩ := I1.list hq
  refine wpAny_pyIter_list p.isList ?_
  refine ⟨s1.heap.objs.size, [s1.heap.objs.size], _, _, H1, rfl, I1.kept (t' := s1.toks) fun b o e => Heap.get?_push_of_some _ e, turn_list a _, ⟨_, Heap.get?_push_size _ rfl, rfl, rfl⟩, fun b hb => ?_, q⟩
  have e : b = s1.heap.objs.size := by simpa using hb
  subst e
  exact I1.fpOk (Nat.le_refl _) (I1.hok.fresh (Nat.le_refl _))
theorem pi_tup {l : Expr} {tl : TE} (hl : PE X l tl) : PI X tg l (iTup X.K tl) := by
  intro pins s σ H R I h
  refine thn (hl pins s σ H _ I h) fun v s1 ⟨x, H1, I1, r1, q1⟩ => ?_
  obtain ⟨a, e, ⟨xs, hq⟩, q⟩ := q1
  subst e
  cases r1
  obtain ⟨its, rv, p, hz⟩ := I1.tuple hq
  refine wpAny_pyIter_tuple (show s1.heap.IsTuple a its.toArray from p) ?_
  refine ⟨s1.heap.objs.size, [s1.heap.objs.size], _, _, H1, rfl, I1.kept (t' := s1.toks) fun b o e => Heap.get?_push_of_some _ e, turn_tuple a _, ⟨_, Heap.get?_push_size _ rfl, rfl, rfl⟩, fun b hb => ?_, q⟩
  have e : b = s1.heap.objs.size := by simpa using hb
  subst e
  exact I1.fpOk (Nat.le_refl _) (I1.hok.fresh (Nat.le_refl _))
theorem range_it {pins : List (Addr × Obj)} {σ : St} {H : Hp} {s : Shared} {R : It → Hp → Prop} {E : Value → Shared → Prop} {lo hi : Int} {t u v : Tok} {tk : Nat} (I : Inv X pins σ H s) (h1 : -(2 ^ 62) ≤ lo) (h2 : lo < 2 ^ 62) (h3 : -(2 ^ 62) ≤ hi) (h4 : hi < 2 ^ 62)
    (q : R (Itr lo (hi - lo).toNat) H) : wpAny (model X.prog X.w) X.A (pyIter (.ref s.heap.objs.size)) (PIE X pins σ tg R) E { s with heap := s.heap.push { cls := .type "range", data := .fields #[.int lo t, .int hi u, .int 1 v] }, toks := tk } := by
  refine wpAny_pyIter_range (IsRange.new ..) (small_one h1 h2 h3 h4) ?_
  have I1 : Inv X pins σ H { s with heap := s.heap.push { cls := .type "range", data := .fields #[.int lo t, .int hi u, .int 1 v] }, toks := tk } := I.kept fun b o e => Heap.get?_push_of_some _ e
  refine ⟨(s.heap.push { cls := .type "range", data := .fields #[.int lo t, .int hi u, .int 1 v] }).objs.size, [(s.heap.push { cls := .type "range", data := .fields #[.int lo t, .int hi u, .int 1 v] }).objs.size], _, _, H, rfl,
    I1.kept (t' := tk) fun b o e => Heap.get?_push_of_some _ e, turn_range _ lo (hi - lo).toNat, ?_, fun b hb => ?_, q⟩
  · have e1 : lo + ((0 : Nat) : Int) * 1 = lo := by simp
    have e2 : (((hi - lo).toNat : Nat) : Int) - ((0 : Nat) : Int) = Builtin.Range.rangeSize lo hi 1 := by rw [rangeSize_one]; split <;> omega
    show IsRangeIter _ _ (lo + ((0 : Nat) : Int) * 1) ((((hi - lo).toNat : Nat) : Int) - ((0 : Nat) : Int)) 1
    rw [e1, e2]
    exact Heap.get?_push_size _ rfl
  · have e : b = (s.heap.push { cls := .type "range", data := .fields #[.int lo t, .int hi u, .int 1 v] }).objs.size := by simpa using hb
    subst e
    exact I1.fpOk (Nat.le_refl _) (I1.hok.fresh (Nat.le_refl _))
def iRng1 (ta : TA) : TI := fun σ H R => ta σ H fun vs H1 => ∃ j : Int, vs = [.int j] ∧ -(2 ^ 62) ≤ j ∧ j < 2 ^ 62 ∧ R (Itr 0 j.toNat) H1
def iRng2 (ta : TA) : TI := fun σ H R => ta σ H fun vs H1 => ∃ i j : Int, vs = [.int i, .int j] ∧ (-(2 ^ 62) ≤ i ∧ i < 2 ^ 62 ∧ -(2 ^ 62) ≤ j ∧ j < 2 ^ 62) ∧ R (Itr i (j - i).toNat) H1
theorem pi_range1 {a : Expr} {ta : TA} {p pos : Pos} (hg : Gl X "range") (hm : X.mg "range" = none) (ha : PA X [a] ta) (hs : starEach [a] X.env = [(false, eval a X.env)] := by rfl) : PI X tg (.Call (.Name "range" p) [a] [] pos) (iRng1 ta) := by
  intro pins s σ H R I h
  refine Call_ (ld_blt I hg hm boot_range (PyProof.Rows.callWith_type1 (thn (ha pos pins s σ H _ I h) fun us s1 ⟨vs, H1, I1, r1, q1⟩ => ?_) hs rfl))
  obtain ⟨j, e, q1, q2, q⟩ := q1
  subst e
  cases r1 with
  | cons r rr =>
    cases rr
    obtain ⟨t, rfl⟩ := r
    exact call_range_1 (range_it I1 (by omega) (by omega) q1 q2 (by simpa using q))
def tFor (wi : TI) (g : TG) (tb : TS) : TS := fun D σ H => wi σ H fun J H1 => ∃ W : Nat → Nat → St → Hp → Prop, (∃ m, W 0 m σ H1) ∧ ∀ i m σ H, W i m σ H →
  (J.stop i H ∧ D.nx σ H) ∨ (J.go i H ∧ ∃ N : St → Hp → Prop, (∀ σ' H', N σ' H' → ∃ m', m' < m ∧ W (i + 1) m' σ' H') ∧ ∀ x H', J.yld i H x H' → g x σ H' fun σ2 H2 => tb { D with nx := N, ct := N, bk := D.nx } σ2 H2)
def pinsAt (fp : List Addr) (h : Heap) : List (Addr × Obj) := fp.filterMap fun b => (h.get? b).map fun o => (b, o)
theorem mem_pinsAt {fp : List Addr} {h : Heap} {b : Addr} {o : Obj} (hb : b ∈ fp) (e : h.get? b = some o) : (b, o) ∈ pinsAt fp h := List.mem_filterMap.mpr ⟨b, hb, by rw [e]; rfl⟩
theorem of_pinsAt {fp : List Addr} {h : Heap} {p : Addr × Obj} (hp : p ∈ pinsAt fp h) : p.1 ∈ fp ∧ h.get? p.1 = some p.2 := by
  obtain ⟨b, hb, e⟩ := List.mem_filterMap.mp hp
  cases q : h.get? b with
  | none => rw [q] at e; cases e
  | some o =>
    rw [q] at e
    have e' : (b, o) = p := Option.some.inj e
    subst e'
    exact ⟨hb, q⟩
theorem Inv.pinned {pins : List (Addr × Obj)} {σ : St} {H : Hp} {s : Shared} {fp : List Addr} (I : Inv X pins σ H s) (hf : ∀ b ∈ fp, FpOk X pins H b) (ho : ∀ b ∈ fp, ∃ o, s.heap.get? b = some o ∧ ∀ v, o.data ≠ .cell v) : Inv X (pins ++ pinsAt fp s.heap) σ H s :=
  I.pins_of fun p hp => (List.mem_append.mp hp).elim (fun z => I.pin p (List.mem_append_right _ z)) fun z => by
    obtain ⟨hb, e⟩ := of_pinsAt z
    obtain ⟨f0, f1, f2, _⟩ := hf p.1 hb
    obtain ⟨o, e', d⟩ := ho p.1 hb
    rw [e] at e'; cases e'
    exact ⟨e, f0, f1, f2, d⟩
theorem Inv.unpinned {pins pl : List (Addr × Obj)} {σ : St} {H : Hp} {s : Shared} (I : Inv X (pins ++ pl) σ H s) : Inv X pins σ H s := I.pins_of fun p hp => I.pin p (List.mem_append_right _ (List.mem_append_left _ hp))
theorem ps_for {iter : Expr} {body : List Stmt} {wi : TI} {g : TG} {tb : TS} {pos : Pos} (hp : PassesOwn (model X.prog X.w) X.A X.env X.xe) (hc : X.calm = true) (hi : PI X tg iter wi) (hg : PG X tg g) (hb : PSs X body tb)
    (hs : ∀ x, foldedSetIterable iter X.env x = pure x := by intro _; rfl) : PS X (.For tg iter body [] pos) (tFor wi g tb) := by
  intro pins s σ H D I h
  refine wpAny_For (thn (hi pins s σ H _ I h) fun v s1 h1 => thn h1 fun itv s2 h2 => ?_) hs
  obtain ⟨it, fp, tn, J, H2, e, I2, T, st2, f2, W, ⟨m0, w0⟩, turn⟩ := h2
  subst e
  have stat : ∀ {H' : Hp}, (∀ b ∈ fp, H' b = none) → ∀ b ∈ fp, FpOk X pins H' b := fun hn b hb => ⟨hn b hb, (f2 b hb).2⟩
  refine codeAny_forLoop_any (fun n s' => ∃ i σ' H', Inv X pins σ' H' s' ∧ tn i s'.heap ∧ (∀ b ∈ fp, H' b = none) ∧ W i n σ' H') ?_ m0 ⟨0, σ, H2, I2, st2, fun b hb => (f2 b hb).1, w0⟩
  rintro n s3 ⟨i, σ3, H3, I3, st3, fr3, w3⟩
  rcases turn i n σ3 H3 w3 with ⟨stop, qn⟩ | ⟨go, N, hN, step⟩
  · refine wpAny_passesOwn hp (thn (T.done X rfl rfl rfl hc i pins s3 σ3 H3 X.xe I3 (stat fr3) st3 stop) fun r s4 ⟨hr, I4⟩ => ?_)
    subst hr
    exact wpAny_execs_nil ⟨σ3, H3, I4, qn⟩
  · refine wpAny_passesOwn hp (thn (T.item X rfl rfl rfl hc i pins s3 σ3 H3 X.xe I3 (stat fr3) st3 go) fun r s4 ⟨u, hr, h4⟩ => ?_)
    subst hr
    refine wpAny_passesOwn hp (thn h4 fun _ s5 ⟨x, H5, I5, r5, y5, st5, fr5⟩ => ?_)
    have I5' := I5.pinned (stat fr5) (T.obj _ _ st5)
    refine wpAny_passesOwn hp (thn (hg _ s5 σ3 H5 x u _ I5' r5 (step x H5 y5)) fun _ s6 ⟨σ6, H6, I6, q6⟩ => ?_)
    refine wpAny_passesOwn hp (thn (hb _ s6 σ6 H6 _ I6 q6) fun f s7 q7 => ?_)
    have again : ∀ {σ7 : St} {H7 : Hp}, Inv X (pins ++ pinsAt fp s5.heap) σ7 H7 s7 → N σ7 H7 → ∃ m, m < n ∧ ∃ i σ' H', Inv X pins σ' H' s7 ∧ tn i s7.heap ∧ (∀ b ∈ fp, H' b = none) ∧ W i m σ' H' := fun {σ7 H7} I7 n7 => by
      obtain ⟨m', hm, w7⟩ := hN σ7 H7 n7
      refine ⟨m', hm, i + 1, σ7, H7, I7.unpinned, T.keep _ _ _ st5 fun b hb o e => (I7.pin (b, o) (List.mem_append_right _ (List.mem_append_right _ (mem_pinsAt hb e)))).1, fun b hb => ?_, w7⟩
      obtain ⟨o, e, d⟩ := T.obj _ _ st5 b hb
      exact (I7.pin (b, o) (List.mem_append_right _ (List.mem_append_right _ (mem_pinsAt hb e)))).2.1
    cases f with
    | next => obtain ⟨σ7, H7, I7, n7⟩ := q7; exact again I7 n7
    | cont => obtain ⟨σ7, H7, I7, n7⟩ := q7; exact again I7 n7
    | brk => obtain ⟨σ7, H7, I7, q7⟩ := q7; exact ⟨σ7, H7, I7.unpinned, q7⟩
    | ret v => obtain ⟨x7, σ7, H7, I7, r7, q7⟩ := q7; exact ⟨x7, σ7, H7, I7.unpinned, r7, q7⟩
end
theorem for_list {K : PySem.W.Frag} {a : Addr} {xs : List V} {g : TG} {tb : TS} {D : Ends} {σ : St} {H : Hp} (Pv : Nat → St → Hp → Prop) (h0 : Pv 0 σ H) (hl : ∀ i σ H, i ≤ xs.length → Pv i σ H → SqL K H a xs)
    (hs : ∀ i x σ H, xs[i]? = some x → Pv i σ H → g x σ H fun σ2 H2 => tb { D with nx := Pv (i + 1), ct := Pv (i + 1), bk := D.nx } σ2 H2) (hd : ∀ σ H, Pv xs.length σ H → D.nx σ H) :
    ∃ W : Nat → Nat → St → Hp → Prop, (∃ m, W 0 m σ H) ∧ ∀ i m σ H, W i m σ H →
      ((Itl K a).stop i H ∧ D.nx σ H) ∨ ((Itl K a).go i H ∧ ∃ N : St → Hp → Prop, (∀ σ' H', N σ' H' → ∃ m', m' < m ∧ W (i + 1) m' σ' H') ∧ ∀ x H', (Itl K a).yld i H x H' → g x σ H' fun σ2 H2 => tb { D with nx := N, ct := N, bk := D.nx } σ2 H2) := by
  refine ⟨fun i m σ H => m = xs.length - i ∧ i ≤ xs.length ∧ Pv i σ H, ⟨xs.length, by simp, Nat.zero_le _, h0⟩, ?_⟩
  rintro i m σ H ⟨rfl, hi, p⟩
  have q := hl i σ H hi p
  by_cases hlt : i < xs.length
  · refine .inr ⟨⟨xs, xs[i], q, by simp [hlt]⟩, Pv (i + 1), fun σ' H' p' => ⟨xs.length - (i + 1), by omega, rfl, hlt, p'⟩, fun x H' y => ?_⟩
    obtain ⟨e, y⟩ := y
    subst e
    exact hs i x σ _ (y xs q) p
  · have e : i = xs.length := by omega
    subst e
    exact .inl ⟨⟨xs, q, Nat.le_refl _⟩, hd σ H p⟩
theorem for_tup {K : PySem.W.Frag} {a : Addr} {xs : List V} {g : TG} {tb : TS} {D : Ends} {σ : St} {H : Hp} (Pv : Nat → St → Hp → Prop) (h0 : Pv 0 σ H) (hl : ∀ i σ H, i ≤ xs.length → Pv i σ H → SqT K H a xs)
    (hs : ∀ i x σ H, xs[i]? = some x → Pv i σ H → g x σ H fun σ2 H2 => tb { D with nx := Pv (i + 1), ct := Pv (i + 1), bk := D.nx } σ2 H2) (hd : ∀ σ H, Pv xs.length σ H → D.nx σ H) :
    ∃ W : Nat → Nat → St → Hp → Prop, (∃ m, W 0 m σ H) ∧ ∀ i m σ H, W i m σ H →
      ((Itt K a).stop i H ∧ D.nx σ H) ∨ ((Itt K a).go i H ∧ ∃ N : St → Hp → Prop, (∀ σ' H', N σ' H' → ∃ m', m' < m ∧ W (i + 1) m' σ' H') ∧ ∀ x H', (Itt K a).yld i H x H' → g x σ H' fun σ2 H2 => tb { D with nx := N, ct := N, bk := D.nx } σ2 H2) := by
  refine ⟨fun i m σ H => m = xs.length - i ∧ i ≤ xs.length ∧ Pv i σ H, ⟨xs.length, by simp, Nat.zero_le _, h0⟩, ?_⟩
  rintro i m σ H ⟨rfl, hi, p⟩
  have q := hl i σ H hi p
  by_cases hlt : i < xs.length
  · refine .inr ⟨⟨xs, xs[i], q, by simp [hlt]⟩, Pv (i + 1), fun σ' H' p' => ⟨xs.length - (i + 1), by omega, rfl, hlt, p'⟩, fun x H' y => ?_⟩
    obtain ⟨e, y⟩ := y
    subst e
    exact hs i x σ _ (y xs q) p
  · have e : i = xs.length := by omega
    subst e
    exact .inl ⟨⟨xs, q, Nat.le_refl _⟩, hd σ H p⟩
theorem for_range {lo : Int} {n : Nat} {g : TG} {tb : TS} {D : Ends} {σ : St} {H : Hp} (Pv : Nat → St → Hp → Prop) (h0 : Pv 0 σ H)
    (hs : ∀ i σ H, i < n → Pv i σ H → g (.int (lo + i)) σ H fun σ2 H2 => tb { D with nx := Pv (i + 1), ct := Pv (i + 1), bk := D.nx } σ2 H2) (hd : ∀ σ H, Pv n σ H → D.nx σ H) :
    ∃ W : Nat → Nat → St → Hp → Prop, (∃ m, W 0 m σ H) ∧ ∀ i m σ H, W i m σ H →
      ((Itr lo n).stop i H ∧ D.nx σ H) ∨ ((Itr lo n).go i H ∧ ∃ N : St → Hp → Prop, (∀ σ' H', N σ' H' → ∃ m', m' < m ∧ W (i + 1) m' σ' H') ∧ ∀ x H', (Itr lo n).yld i H x H' → g x σ H' fun σ2 H2 => tb { D with nx := N, ct := N, bk := D.nx } σ2 H2) := by
  refine ⟨fun i m σ H => m = n - i ∧ i ≤ n ∧ Pv i σ H, ⟨n, by simp, Nat.zero_le _, h0⟩, ?_⟩
  rintro i m σ H ⟨rfl, hi, p⟩
  by_cases hlt : i < n
  · refine .inr ⟨hlt, Pv (i + 1), fun σ' H' p' => ⟨n - (i + 1), by omega, rfl, hlt, p'⟩, fun x H' y => ?_⟩
    obtain ⟨e, y⟩ := y
    subst e y
    exact hs i σ _ hlt p
  · have e : i = n := by omega
    subst e
    exact .inl ⟨Nat.le_refl _, hd σ H p⟩
theorem while_by {c : TT} {tb : TS} {D : Ends} {σ : St} {H : Hp} (Pv : St → Hp → Prop) (μ : St → Hp → Nat) (h0 : Pv σ H)
    (hs : ∀ σ H, Pv σ H → c σ H fun b H1 => if b = true then tb { D with nx := fun σ' H' => Pv σ' H' ∧ μ σ' H' < μ σ H, ct := fun σ' H' => Pv σ' H' ∧ μ σ' H' < μ σ H, bk := D.nx } σ H1 else D.nx σ H1)
    (mono : ∀ σ H Q Q', (∀ b H1, Q b H1 → Q' b H1) → c σ H Q → c σ H Q') : tWhile c tb D σ H := by
  refine ⟨fun m σ H => m = μ σ H ∧ Pv σ H, ⟨_, rfl, h0⟩, ?_⟩
  rintro m σ H ⟨rfl, p⟩
  refine mono σ H _ _ (fun b H1 q => ?_) (hs σ H p)
  cases b with
  | true => exact ⟨_, fun σ' H' ⟨p', l⟩ => ⟨_, l, rfl, p'⟩, q⟩
  | false => exact q
end L2
namespace L2
open PySem PySem.Spec PyProof.Rows
abbrev R2 := V → V → Hp → VK → Prop
def OpR (X : Cx) (f : Value → Value → Sem Value) (r : R2) : Prop :=
  ∀ (pins : List (Addr × Obj)) (s : Shared) (σ : St) (H : Hp) (x y : V) (v u : Value) (Q : VK), Inv X pins σ H s → RelV x v → RelV y u → r x y H Q →
    wpAny (model X.prog X.w) X.A (f v u) (EP X pins σ Q) X.xe s
def UnR (X : Cx) (f : Value → Sem Value) (r : V → Hp → VK → Prop) : Prop :=
  ∀ (pins : List (Addr × Obj)) (s : Shared) (σ : St) (H : Hp) (x : V) (v : Value) (Q : VK), Inv X pins σ H s → RelV x v → r x H Q →
    wpAny (model X.prog X.w) X.A (f v) (EP X pins σ Q) X.xe s
def CallR (X : Cx) (f : Value) (r : List V → Hp → VK → Prop) : Prop :=
  ∀ (pins : List (Addr × Obj)) (s : Shared) (σ : St) (H : Hp) (xs : List V) (us : List Value) (Q : VK), Inv X pins σ H s → Vals xs us → r xs H Q →
    wpAny (model X.prog X.w) X.A (call f us) (EP X pins σ Q) X.xe s
def TruR (X : Cx) (r : V → Hp → (Bool → Hp → Prop) → Prop) : Prop :=
  ∀ (pins : List (Addr × Obj)) (s : Shared) (σ : St) (H : Hp) (x : V) (v : Value) (Q : Bool → Hp → Prop), Inv X pins σ H s → RelV x v → r x H Q →
    wpAny (model X.prog X.w) X.A (truthy v) (TP X pins σ Q) X.xe s
def tOp (r : R2) (ta tb : TE) : TE := fun σ H Q => ta σ H fun x H1 => tb σ H1 fun y H2 => r x y H2 Q
def tUn (r : V → Hp → VK → Prop) (ta : TE) : TE := fun σ H Q => ta σ H fun x H1 => r x H1 Q
def rI (C : Int → Int → Prop) (g : Int → Int → V) : R2 := fun x y H Q => ∃ i j, x = .int i ∧ y = .int j ∧ C i j ∧ Q (g i j) H
def rI0 (g : Int → Int → V) : R2 := fun x y H Q => ∃ i j, x = .int i ∧ y = .int j ∧ Q (g i j) H
def rU (g : Int → V) : V → Hp → VK → Prop := fun x H Q => ∃ i, x = .int i ∧ Q (g i) H
section
variable {X : Cx} {a b c : Expr} {ta tb tc : TE} {pos : Pos}
theorem binT (ha : PE X a ta) (hb : PE X b tb) {pins : List (Addr × Obj)} {s : Shared} {σ : St} {H : Hp} {R : V → V → Hp → Prop} (I : Inv X pins σ H s)
    (h : ta σ H fun x H1 => tb σ H1 fun y H2 => R x y H2) {Q : Value → Shared → Prop} {f : Value → Value → Sem Value}
    (hf : ∀ v u s2 x y H2, Inv X pins σ H2 s2 → RelV x v → RelV y u → R x y H2 → wpAny (model X.prog X.w) X.A (f v u) Q X.xe s2) :
    wpAny (model X.prog X.w) X.A (eval a X.env) (fun v s₁ => wpAny (model X.prog X.w) X.A (eval b X.env) (fun u s₂ => wpAny (model X.prog X.w) X.A (f v u) Q X.xe s₂) X.xe s₁) X.xe s := by
  refine thn (ha pins s σ H _ I h) fun v s1 ⟨x, H1, I1, r1, q1⟩ => ?_
  refine thn (hb pins s1 σ H1 _ I1 q1) fun u s2 ⟨y, H2, I2, r2, q2⟩ => ?_
  exact hf v u s2 x y H2 I2 r1 r2 q2
theorem pe_op {op : Operator} {r : R2} (ho : OpR X (binaryOp op) r) (ha : PE X a ta) (hb : PE X b tb) : PE X (.BinOp a op b pos) (tOp r ta tb) := by
  intro pins s σ H Q I h
  exact wpAny_BinOp (binT ha hb I h fun v u s2 x y H2 I2 rx ry q => ho pins s2 σ H2 x y v u Q I2 rx ry q)
theorem pe_un {op : UnaryOp} {r : V → Hp → VK → Prop} (ho : UnR X (unaryOp op) r) (ha : PE X a ta) : PE X (.UnaryOp op a pos) (tUn r ta) := by
  intro pins s σ H Q I h
  exact UnaryOp_ (thn (ha pins s σ H _ I h) fun v s1 ⟨x, H1, I1, r1, q1⟩ => ho pins s1 σ H1 x v Q I1 r1 q1)
theorem opI {f : Value → Value → Sem Value} {C : Int → Int → Prop} {g : Int → Int → Int}
    (rule : ∀ (i j : Int) (t u : Tok) (s : Shared) (Q : Value → Shared → Prop) (E : Value → Shared → Prop), C i j → Q (.int (g i j) s.toks) { s with toks := s.toks + 1 } → wpAny (model X.prog X.w) X.A (f (.int i t) (.int j u)) Q E s) :
    OpR X f (rI C fun i j => .int (g i j)) := by
  intro pins s σ H x y v u Q I rx ry h
  obtain ⟨i, j, rfl, rfl, hc, q⟩ := h
  obtain ⟨t, rfl⟩ := rx
  obtain ⟨t', rfl⟩ := ry
  exact rule i j t t' s _ _ hc ⟨.int (g i j), H, I.tok _, ⟨_, rfl⟩, q⟩
theorem opI0 {f : Value → Value → Sem Value} {g : Int → Int → Int}
    (rule : ∀ (i j : Int) (t u : Tok) (s : Shared) (Q : Value → Shared → Prop) (E : Value → Shared → Prop), Q (.int (g i j) s.toks) { s with toks := s.toks + 1 } → wpAny (model X.prog X.w) X.A (f (.int i t) (.int j u)) Q E s) :
    OpR X f (rI0 fun i j => .int (g i j)) := by
  intro pins s σ H x y v u Q I rx ry h
  obtain ⟨i, j, rfl, rfl, q⟩ := h
  obtain ⟨t, rfl⟩ := rx
  obtain ⟨t', rfl⟩ := ry
  exact rule i j t t' s _ _ ⟨.int (g i j), H, I.tok _, ⟨_, rfl⟩, q⟩
theorem opB0 {f : Value → Value → Sem Value} {g : Int → Int → Bool}
    (rule : ∀ (i j : Int) (t u : Tok) (s : Shared) (Q : Value → Shared → Prop) (E : Value → Shared → Prop), Q (.bool (g i j)) s → wpAny (model X.prog X.w) X.A (f (.int i t) (.int j u)) Q E s) :
    OpR X f (rI0 fun i j => .bl (g i j)) := by
  intro pins s σ H x y v u Q I rx ry h
  obtain ⟨i, j, rfl, rfl, q⟩ := h
  obtain ⟨t, rfl⟩ := rx
  obtain ⟨t', rfl⟩ := ry
  exact rule i j t t' s _ _ ⟨.bl (g i j), H, I, rfl, q⟩
def CDiv (i j : Int) : Prop := 0 < j ∧ j < 1073741824
def CDivN (i j : Int) : Prop := j ≠ 0 ∧ j.natAbs < 1073741824
def CPow (i j : Int) : Prop := 0 ≤ j ∧ j ≤ 1000000 ∧ i.natAbs < 2 ^ 64
def CMul (i j : Int) : Prop := (-(2 ^ 64) < i ∧ i < 2 ^ 64) ∨ (-(2 ^ 64) < j ∧ j < 2 ^ 64)
theorem CMul.ok {i j : Int} (h : CMul i j) : IntMulOk i j := by
  rcases h with ⟨h1, h2⟩ | ⟨h1, h2⟩
  · exact .of_left (intBits_le_64 h1 h2)
  · exact .of_right (intBits_le_64 h1 h2)
theorem op_add : OpR X (binaryOp .Add) (rI0 fun i j => .int (i + j)) := opI0 fun _ _ _ _ _ _ _ q => add_int q
theorem op_sub : OpR X (binaryOp .Sub) (rI0 fun i j => .int (i - j)) := opI0 fun _ _ _ _ _ _ _ q => sub_int q
theorem op_mul : OpR X (binaryOp .Mult) (rI CMul fun i j => .int (i * j)) := opI fun _ _ _ _ _ _ _ hc q => mul_int q hc.ok
theorem op_fdiv : OpR X (binaryOp .FloorDiv) (rI CDiv fun i j => .int (i / j)) := opI fun i j _ _ _ _ _ hc q => by
  have h1 : (0 : Int) < j := hc.1
  have h2 : j < 1073741824 := hc.2
  exact floordiv_int (by omega) (by rw [Int.fdiv_eq_ediv_of_nonneg i (by omega)]; exact q) (.inl (PyProof.noPylong_small (by omega)))
theorem op_mod : OpR X (binaryOp .Mod) (rI (fun _ j => 0 < j) fun i j => .int (i % j)) := opI fun i j _ _ _ _ _ hc q => by
  have h1 : (0 : Int) < j := hc
  exact mod_int' (by omega) (by rw [Int.fmod_eq_emod_of_nonneg i (by omega)]; exact q)
theorem op_pow : OpR X (binaryOp .Pow) (rI CPow fun i j => .int (i ^ j.toNat)) := opI fun _ _ _ _ _ _ _ hc q => pow_int_small hc.1 hc.2.1 hc.2.2 q
theorem unI {f : Value → Sem Value} {g : Int → Int}
    (rule : ∀ (i : Int) (t : Tok) (s : Shared) (Q : Value → Shared → Prop) (E : Value → Shared → Prop), Q (.int (g i) s.toks) { s with toks := s.toks + 1 } → wpAny (model X.prog X.w) X.A (f (.int i t)) Q E s) :
    UnR X f (rU fun i => .int (g i)) := by
  intro pins s σ H x v Q I rx h
  obtain ⟨i, rfl, q⟩ := h
  obtain ⟨t, rfl⟩ := rx
  exact rule i t s _ _ ⟨.int (g i), H, I.tok _, ⟨_, rfl⟩, q⟩
theorem un_neg : UnR X (unaryOp .USub) (rU fun i => .int (-i)) := unI fun _ _ _ _ _ q => neg_int q
end
def scal : V → V → Bool
  | .non, .non => true | .non, .int _ => true | .int _, .non => true | .non, .bl _ => true | .bl _, .non => true | .non, .str _ => true | .str _, .non => true
  | .int _, .int _ => true | .bl _, .bl _ => true | .str _, .str _ => true | .byt _, .byt _ => true
  | .int _, .str _ => true | .str _, .int _ => true | .bl _, .str _ => true | .str _, .bl _ => true
  | _, _ => false
def rEq : R2 := fun x y H Q => scal x y = true ∧ Q (.bl (decide (x = y))) H
def rNe : R2 := fun x y H Q => scal x y = true ∧ Q (.bl (!decide (x = y))) H
theorem dec_int {i j : Int} : decide (V.int i = V.int j) = (i == j) := by
  rw [Bool.eq_iff_iff]
  simp
theorem dec_bl {i j : Bool} : decide (V.bl i = V.bl j) = (i == j) := by
  rw [Bool.eq_iff_iff]
  simp
theorem dec_str {i j : Str} : decide (V.str i = V.str j) = (i == j) := by
  rw [Bool.eq_iff_iff]
  simp
theorem dec_byt {i j : Array UInt8} : decide (V.byt i = V.byt j) = (i.toList == j.toList) := by
  rw [Bool.eq_iff_iff]
  cases i
  cases j
  simp
section
variable {X : Cx} {a b c : Expr} {ta tb tc : TE} {pos : Pos}
theorem fin_bl {pins : List (Addr × Obj)} {σ : St} {H : Hp} {s : Shared} {Q : VK} {k k' : Bool} (I : Inv X pins σ H s) (q : Q (.bl k) H) (e : k = k') : EP X pins σ Q (.bool k') s := by
  subst e
  exact ⟨.bl k, H, I, rfl, q⟩
theorem op_eq : OpR X (compareOp .Eq) rEq := by
  intro pins s σ H x y v u Q I rx ry h
  obtain ⟨hs, q⟩ := h
  cases x with
  | non =>
    cases rx
    cases y with
    | non => cases ry; exact PySem.EqNone.eq_none_none (fin_bl I q (by simp))
    | bl j => cases ry; exact PySem.EqNone.eq_none_bool (fin_bl I q (by simp))
    | int j => obtain ⟨t', rfl⟩ := ry; exact PySem.EqNone.eq_none_int (fin_bl I q (by simp))
    | str j => obtain ⟨t', rfl⟩ := ry; exact PySem.EqNone.eq_none_str (fin_bl I q (by simp))
    | _ => exact absurd (show false = true from hs) Bool.false_ne_true
  | bl i =>
    cases rx
    cases y with
    | non => cases ry; exact PySem.EqNone.eq_bool_none (fin_bl I q (by simp))
    | bl j => cases ry; exact eq_bool (fin_bl I q dec_bl)
    | str j => obtain ⟨t', rfl⟩ := ry; exact PySem.EqMixed.eq_bool_str (fin_bl I q (by simp))
    | _ => exact absurd (show false = true from hs) Bool.false_ne_true
  | int i =>
    obtain ⟨t, rfl⟩ := rx
    cases y with
    | non => cases ry; exact PySem.EqNone.eq_int_none (fin_bl I q (by simp))
    | int j => obtain ⟨t', rfl⟩ := ry; exact eq_int (fin_bl I q dec_int)
    | str j => obtain ⟨t', rfl⟩ := ry; exact PySem.EqMixed.eq_int_str (fin_bl I q (by simp))
    | _ => exact absurd (show false = true from hs) Bool.false_ne_true
  | str i =>
    obtain ⟨t, rfl⟩ := rx
    cases y with
    | non => cases ry; exact PySem.EqNone.eq_str_none (fin_bl I q (by simp))
    | bl j => cases ry; exact PySem.EqMixed.eq_str_bool (fin_bl I q (by simp))
    | int j => obtain ⟨t', rfl⟩ := ry; exact PySem.EqMixed.eq_str_int (fin_bl I q (by simp))
    | str j => obtain ⟨t', rfl⟩ := ry; exact eq_str (fin_bl I q dec_str)
    | _ => exact absurd (show false = true from hs) Bool.false_ne_true
  | byt i =>
    obtain ⟨t, rfl⟩ := rx
    cases y with
    | byt j => obtain ⟨t', rfl⟩ := ry; exact PySem.W.eq_bytes (fin_bl I q dec_byt)
    | _ => exact absurd (show false = true from hs) Bool.false_ne_true
  | _ => cases y <;> exact absurd (show false = true from hs) Bool.false_ne_true
theorem op_ne : OpR X (compareOp .NotEq) rNe := by
  intro pins s σ H x y v u Q I rx ry h
  obtain ⟨hs, q⟩ := h
  cases x with
  | non =>
    cases rx
    cases y with
    | non => cases ry; exact PySem.EqNone.ne_none_none (fin_bl I q (by simp))
    | bl j => cases ry; exact PySem.EqNone.ne_none_bool (fin_bl I q (by simp))
    | int j => obtain ⟨t', rfl⟩ := ry; exact PySem.EqNone.ne_none_int (fin_bl I q (by simp))
    | str j => obtain ⟨t', rfl⟩ := ry; exact PySem.EqNone.ne_none_str (fin_bl I q (by simp))
    | _ => exact absurd (show false = true from hs) Bool.false_ne_true
  | bl i =>
    cases rx
    cases y with
    | non => cases ry; exact PySem.EqNone.ne_bool_none (fin_bl I q (by simp))
    | bl j => cases ry; exact ne_bool (fin_bl I q (congrArg not dec_bl))
    | str j => obtain ⟨t', rfl⟩ := ry; exact PySem.EqMixed.ne_bool_str (fin_bl I q (by simp))
    | _ => exact absurd (show false = true from hs) Bool.false_ne_true
  | int i =>
    obtain ⟨t, rfl⟩ := rx
    cases y with
    | non => cases ry; exact PySem.EqNone.ne_int_none (fin_bl I q (by simp))
    | int j => obtain ⟨t', rfl⟩ := ry; exact ne_int (fin_bl I q (congrArg not dec_int))
    | str j => obtain ⟨t', rfl⟩ := ry; exact PySem.EqMixed.ne_int_str (fin_bl I q (by simp))
    | _ => exact absurd (show false = true from hs) Bool.false_ne_true
  | str i =>
    obtain ⟨t, rfl⟩ := rx
    cases y with
    | non => cases ry; exact PySem.EqNone.ne_str_none (fin_bl I q (by simp))
    | bl j => cases ry; exact PySem.EqMixed.ne_str_bool (fin_bl I q (by simp))
    | int j => obtain ⟨t', rfl⟩ := ry; exact PySem.EqMixed.ne_str_int (fin_bl I q (by simp))
    | str j => obtain ⟨t', rfl⟩ := ry; exact ne_str (fin_bl I q (congrArg not dec_str))
    | _ => exact absurd (show false = true from hs) Bool.false_ne_true
  | byt i =>
    obtain ⟨t, rfl⟩ := rx
    cases y with
    | byt j => obtain ⟨t', rfl⟩ := ry; exact PySem.W.ne_bytes (fin_bl I q (congrArg not dec_byt))
    | _ => exact absurd (show false = true from hs) Bool.false_ne_true
  | _ => cases y <;> exact absurd (show false = true from hs) Bool.false_ne_true
theorem op_lt : OpR X (compareOp .Lt) (rI0 fun i j => .bl (decide (i < j))) := opB0 fun _ _ _ _ _ _ _ q => lt_int q
theorem op_le : OpR X (compareOp .LtE) (rI0 fun i j => .bl (decide (i ≤ j))) := opB0 fun _ _ _ _ _ _ _ q => le_int q
theorem op_gt : OpR X (compareOp .Gt) (rI0 fun i j => .bl (decide (j < i))) := opB0 fun _ _ _ _ _ _ _ q => gt_int q
theorem op_ge : OpR X (compareOp .GtE) (rI0 fun i j => .bl (decide (j ≤ i))) := opB0 fun _ _ _ _ _ _ _ q => ge_int q
theorem op_isN : OpR X (compareOp .Is) (fun x y H Q => y = .non ∧ Q (.bl (decide (x = .non))) H) := by
  intro pins s σ H x y v u Q I rx ry h
  obtain ⟨rfl, q⟩ := h
  cases ry
  refine is_none_gen (fin_bl I q ?_)
  cases x <;> first
    | (cases rx; rfl)
    | (obtain ⟨t, rfl⟩ := rx; rfl)
def isObj : HO → Bool
  | .lst _ => true
  | .ins _ _ _ => true
  | _ => false
theorem nomark (b : Expr) {op : CmpOp} (h : op ≠ .In := by decide) (h2 : op ≠ .NotIn := by decide) : behindInMarks op b = false := by
  have e1 : (op == CmpOp.In) = false := by cases op <;> first | rfl | exact absurd rfl h
  have e2 : (op == CmpOp.NotIn) = false := by cases op <;> first | rfl | exact absurd rfl h2
  cases b <;> simp [behindInMarks, e1, e2]
theorem pe_cmpR {op : CmpOp} {r : R2} (ho : OpR X (compareOp op) r) (ha : PE X a ta) (hb : PE X b tb) (hm : behindInMarks op b = false) : PE X (.Compare a [op] [b] pos) (tOp r ta tb) := by
  intro pins s σ H Q I h
  exact wpAny_Compare1 (binT ha hb I h fun v u s2 x y H2 I2 rx ry q => ho pins s2 σ H2 x y v u Q I2 rx ry q) hm
def tTest (t : TE) : TT := fun σ H Q => t σ H fun x H' => ∃ k, x = .bl k ∧ Q k H'
theorem pt_cmpR {op : CmpOp} {r : R2} (ho : OpR X (compareOp op) r) (ha : PE X a ta) (hb : PE X b tb) (hm : behindInMarks op b = false) : PT X (.Compare a [op] [b] pos) (tTest (tOp r ta tb)) := by
  intro pins s σ H Q I h
  refine wpAny_isTrue_Compare1 (thn (ha pins s σ H _ I h) fun v s1 ⟨x, H1, I1, r1, q1⟩ => thn (hb pins s1 σ H1 _ I1 q1) fun u s2 ⟨y, H2, I2, r2, q2⟩ =>
    thn (ho pins s2 σ H2 x y v u _ I2 r1 r2 q2) fun c s3 ⟨z, H3, I3, r3, k, e, q3⟩ => ?_) hm
  subst e
  cases r3
  exact wpAny_truthy_bool ⟨H3, I3, q3⟩
def tChain (r r' : R2) (ta tb tc : TE) : TE := fun σ H Q => ta σ H fun x H1 => tb σ H1 fun y H2 => r x y H2 fun z H3 => ∃ k, z = .bl k ∧
  (if k = true then tc σ H3 fun w' H4 => r' y w' H4 Q else Q (.bl false) H3)
theorem pe_chain {op op' : CmpOp} {r r' : R2} (ho : OpR X (compareOp op) r) (ho' : OpR X (compareOp op') r') (ha : PE X a ta) (hb : PE X b tb) (hc : PE X c tc)
    (hm : lastMarks [op, op'] [b, c] = false := by with_unfolding_all rfl) : PE X (.Compare a [op, op'] [b, c] pos) (tChain r r' ta tb tc) := by
  intro pins s σ H Q I h
  refine Compare_chain (thn (ha pins s σ H _ I h) fun v s1 ⟨x, H1, I1, r1, q1⟩ => chain_link (thn (hb pins s1 σ H1 _ I1 q1) fun u s2 ⟨y, H2, I2, r2, q2⟩ =>
    thn (ho pins s2 σ H2 x y v u _ I2 r1 r2 q2) fun d s3 ⟨z, H3, I3, r3, k, e, q3⟩ => ?_)) hm
  subst e
  cases r3
  refine wpAny_truthy_bool ?_
  cases k with
  | false => exact ite_ff ⟨.bl false, H3, I3, rfl, q3⟩
  | true => exact ite_tt (chain_last (thn (hc pins s3 σ H3 _ I3 q3) fun w' s4 ⟨z', H4, I4, r4, q4⟩ => ho' pins s4 σ H4 y z' u w' Q I4 r2 r4 q4))
def TruV (K : PySem.W.Frag) (x : V) (H : Hp) (k : Bool) : Prop :=
  match x with
  | .non => k = false
  | .bl b => k = b
  | .int i => k = (i != 0)
  | .str y => y.length ≤ sizeLine ∧ k = ((y.length : Int) != 0)
  | .byt y => y.size ≤ sizeLine ∧ k = ((y.size : Int) != 0)
  | .ref p => (∃ xs, SqL K H p xs ∧ k = !xs.isEmpty) ∨ (∃ xs, SqT K H p xs ∧ k = !xs.isEmpty) ∨ ∃ kvs, H p = some (.dK kvs) ∧ k = !kvs.isEmpty
  | _ => False
theorem line63 : (sizeLine : Nat) < 2 ^ 63 := by rw [sizeLine_eq]; decide
theorem op_add_str : OpR X (binaryOp .Add) (fun x y H Q => ∃ i j, x = .str i ∧ y = .str j ∧ i.length + j.length ≤ sizeLine ∧ Q (.str (i ++ j)) H) := by
  intro pins s σ H x y v u Q I rx ry h
  obtain ⟨i, j, rfl, rfl, hz, q⟩ := h
  obtain ⟨t, rfl⟩ := rx
  obtain ⟨t', rfl⟩ := ry
  exact add_str (fun t' tk => ⟨.str (i ++ j), H, I.tok _, ⟨_, rfl⟩, q⟩) hz
def PlainIxT (b : Expr) : Prop := ∀ o i, subscripted b false o i = operate [o, i] (getItem o i)
theorem vals1 {x : V} {us : List Value} (r : Vals [x] us) : ∃ u, us = [u] ∧ RelV x u := by
  cases r with
  | cons r1 r2 => cases r2; exact ⟨_, rfl, r1⟩
theorem vals2 {x y : V} {us : List Value} (r : Vals [x, y] us) : ∃ u w', us = [u, w'] ∧ RelV x u ∧ RelV y w' := by
  cases r with
  | cons r1 r2 =>
    cases r2 with
    | cons r3 r4 => cases r4; exact ⟨_, _, rfl, r1, r3⟩
theorem call_max2 (hc : X.calm = true) : CallR X (.builtin "max") (fun xs H Q => ∃ i j, xs = [.int i, .int j] ∧ Q (.int (if j > i then j else i)) H) := by
  intro pins s σ H xs us Q I r h
  obtain ⟨i, j, rfl, q⟩ := h
  obtain ⟨u, w', rfl, ⟨t, rfl⟩, ⟨t', rfl⟩⟩ := vals2 r
  refine max_two_ints (I.ok.hd hc) fun h' tk k => ⟨_, H, I.kept k, ?_, q⟩
  by_cases hj : j > i
  · rw [if_pos hj, if_pos hj]; exact ⟨_, rfl⟩
  · rw [if_neg hj, if_neg hj]; exact ⟨_, rfl⟩
theorem call_int1 : CallR X (.type "int") (fun xs H Q => (∃ i, xs = [.int i] ∧ Q (.int i) H) ∨ ∃ k, xs = [.bl k] ∧ Q (.int (if k then 1 else 0)) H) := by
  intro pins s σ H xs us Q I r h
  rcases h with ⟨i, rfl, q⟩ | ⟨k, rfl, q⟩
  · obtain ⟨u, rfl, t, rfl⟩ := vals1 r
    exact call_int_int ⟨.int i, H, I, ⟨_, rfl⟩, q⟩
  · obtain ⟨u, rfl, r1⟩ := vals1 r
    cases r1
    exact call_int_bool ⟨.int (if k then 1 else 0), H, I.tok _, ⟨_, rfl⟩, q⟩
theorem call_ord : CallR X (.builtin "ord") (fun xs H Q => ∃ x, xs = [.str x] ∧ x.length = 1 ∧ Q (.int (x.cps.getD 0 0 : Nat)) H) := by
  intro pins s σ H xs us Q I r h
  obtain ⟨x, rfl, hz, q⟩ := h
  obtain ⟨u, rfl, t, rfl⟩ := vals1 r
  exact ord_of_one hz ⟨.int _, H, I.tok _, ⟨_, rfl⟩, q⟩
def LenV (K : PySem.W.Frag) (x : V) (H : Hp) (n : Nat) : Prop :=
  match x with
  | .str y => y.length ≤ sizeLine ∧ n = y.length
  | .byt y => y.size ≤ sizeLine ∧ n = y.size
  | .ref p => (∃ xs, SqL K H p xs ∧ n = xs.length) ∨ ∃ xs, SqT K H p xs ∧ n = xs.length
  | _ => False
end
end L2
namespace L2
open PySem PySem.Spec PyProof.Rows
structure ObjM (h : Heap) (x dx C : Addr) (mA : Str → Option Value) : Prop where
  obj : h.get? x = some (PySem.W.instObj C dx)
  ns : h.Ns1 dx mA
  ne : dx ≠ x
theorem lookIn_ns {h : Heap} {dx : Addr} {mA : Str → Option Value} (n : h.Ns1 dx mA) : ∃ od, h.get? dx = some od ∧ ∀ name, PySem.W.lookIn name od = some (mA name) := by
  obtain ⟨o, es, ep, ho, hd, hk, _, hm⟩ := n
  refine ⟨o, ho, fun name => ?_⟩
  have e := hm name
  unfold nsFind findBy at e
  rw [← Array.find?_toList] at e
  unfold PySem.W.lookIn
  rw [hd]
  dsimp only
  split
  · rename_i y q
    rw [q] at e
    exact congrArg some e
  · rename_i q
    rw [q] at e
    have a : es.toList.any (·.refKey) = false := by
      rw [List.any_eq_false]
      intro y hy
      obtain ⟨z, t, hkey⟩ := hk y (Array.mem_toList_iff.mp hy)
      simp [DictEntry.refKey, hkey]
    have a' : ¬ es.toList.any (·.refKey) = true := by rw [a]; exact Bool.false_ne_true
    rw [if_neg a']
    exact congrArg some e
theorem ObjM.look {h : Heap} {x dx C : Addr} {mA : Str → Option Value} (I : ObjM h x dx C mA) : ∃ od, PySem.W.InstAt h x (PySem.W.instObj C dx) C (some od) ∧ ∀ name, PySem.W.lookIn name od = some (mA name) :=
  let ⟨od, ho, hl⟩ := lookIn_ns I.ns
  ⟨od, ⟨I.obj, rfl, rfl, ho⟩, hl⟩
section
variable {prog : Program} {w : World} {A : Around} {E : Value → Shared → Prop} {s : Shared} {K : PySem.W.Frag} {x dx C f : Addr} {mA : Str → Option Value} {name : Str} {v : Value}
end
def putF (f : Str) (v : V) : List (Str × V) → List (Str × V)
  | [] => [(f, v)]
  | (g, x) :: r => if g = f then (g, v) :: r else (g, x) :: putF f v r
theorem lookup_putF (f g : Str) (v : V) : ∀ fs : List (Str × V), (putF f v fs).lookup g = if g = f then some v else fs.lookup g
  | [] => by
    show List.lookup g [(f, v)] = _
    by_cases h : g = f
    · have hb : (g == f) = true := beq_iff_eq.mpr h
      simp only [List.lookup, hb, if_pos h]
    · have hb : (g == f) = false := beq_eq_false_iff_ne.mpr h
      simp only [List.lookup, hb, if_neg h]
  | (k, x) :: r => by
    have ih := lookup_putF f g v r
    rw [show putF f v ((k, x) :: r) = (if k = f then (k, v) :: r else (k, x) :: putF f v r) from rfl]
    by_cases hk : k = f
    · rw [if_pos hk]
      by_cases h : g = k
      · have hb : (g == k) = true := beq_iff_eq.mpr h
        simp only [List.lookup, hb, if_pos (h.trans hk)]
      · have hb : (g == k) = false := beq_eq_false_iff_ne.mpr h
        simp only [List.lookup, hb, if_neg (fun e : g = f => h (e.trans hk.symm))]
    · rw [if_neg hk]
      by_cases h : g = k
      · have hb : (g == k) = true := beq_iff_eq.mpr h
        simp only [List.lookup, hb, if_neg (fun e : g = f => hk (h.symm.trans e))]
      · have hb : (g == k) = false := beq_eq_false_iff_ne.mpr h
        simp only [List.lookup, hb]
        exact ih
theorem keys_putF (f : Str) (v : V) : ∀ fs : List (Str × V), f ∈ (putF f v fs).map (·.1) ∧ ∀ g, g ∈ fs.map (·.1) → g ∈ (putF f v fs).map (·.1)
  | [] => ⟨by simp [putF], fun g h => by simp at h⟩
  | (k, x) :: r => by
    obtain ⟨i1, i2⟩ := keys_putF f v r
    rw [show putF f v ((k, x) :: r) = (if k = f then (k, v) :: r else (k, x) :: putF f v r) from rfl]
    by_cases hk : k = f
    · rw [if_pos hk]
      subst hk
      exact ⟨by simp, fun g h => by simpa using h⟩
    · rw [if_neg hk]
      refine ⟨?_, fun g h => ?_⟩
      · rw [List.map_cons]
        exact List.mem_cons_of_mem _ i1
      · rw [List.map_cons] at h ⊢
        rcases List.mem_cons.mp h with e | e
        · exact List.mem_cons.mpr (.inl e)
        · exact List.mem_cons_of_mem _ (i2 g e)
theorem length_putF (f : Str) (v : V) : ∀ fs : List (Str × V), (putF f v fs).length ≤ fs.length + 1
  | [] => by simp [putF]
  | (k, x) :: r => by
    have ih := length_putF f v r
    rw [show putF f v ((k, x) :: r) = (if k = f then (k, v) :: r else (k, x) :: putF f v r) from rfl]
    by_cases hk : k = f
    · rw [if_pos hk, List.length_cons, List.length_cons]; omega
    · rw [if_neg hk, List.length_cons, List.length_cons]; omega
theorem RelO.some_of {v : V} {o : Option Value} (r : RelO (some v) o) : ∃ u, o = some u ∧ RelV v u := by
  cases o with
  | none => exact (show False from r).elim
  | some u => exact ⟨u, rfl, r⟩
section
variable {P : Program} {w : World} {H H' : Hp} {h h' : Heap} {a C dx : Addr} {fs fs' : List (Str × V)}
theorem ins_get (hok : HOk P w H h) (e : H a = some (.ins C dx fs)) : ∃ mA, ObjM h a dx C mA ∧ (∀ f, RelO (fs.lookup f) (mA f)) ∧ PySem.Within mA (fs.map (·.1)) ∧ fs.length ≤ 1000 ∧ H dx = some (.own a) := by
  obtain ⟨d, z, ne, ob, mA, n, r, q⟩ := (show ObjOk P w H h a (.ins C dx fs) from hok a _ e)
  exact ⟨mA, ⟨ob, n, ne⟩, r, q, z, d⟩
end
structure Cls (K : PySem.W.Frag) (C : Addr) : Prop where
  pg : PySem.W.plainGet K C Str.empty = true
  hd : PySem.W.hasDictIn K C = true
  po : PySem.W.plainOver K C = true
  sa : PySem.W.findIn K (.ref C) "__setattr__" = some (some (.builtin "object.__setattr__"))
theorem Cls.get {K : PySem.W.Frag} {C : Addr} (c : Cls K C) (f : Str) : PySem.W.plainGet K C f = true := c.pg
def NoAttr (K : PySem.W.Frag) (C : Addr) (f : Str) : Prop := PySem.W.findIn K (.ref C) f = some none
structure Con (K : PySem.W.Frag) (C : Addr) (f : Str) (v : V) (u : Value) : Prop where
  at_ : PySem.W.findIn K (.ref C) f = some (some u)
  rel : RelV v u
  get : PySem.W.specialIn K u "__get__" = some none
  cp : PySem.W.copiedNames.contains f = false
structure Meth (K : PySem.W.Frag) (C : Addr) (m : Str) (f : Addr) : Prop where
  at_ : PySem.W.findIn K (.ref C) m = some (some (.ref f))
  fn : PySem.W.isFn K (.ref f) = true
  kp : PySem.W.keepIn K (.ref f) = true
section
variable {X : Cx} {pins : List (Addr × Obj)} {σ : St} {H : Hp} {s : Shared} {a C dx : Addr} {fs : List (Str × V)} {f : Str} {v : V} {A : Around} {E : Value → Shared → Prop}
theorem Inv.made (I : Inv X pins σ H s) : Inv X pins σ (upd (upd H s.heap.objs.size (.own (s.heap.objs.size + 1))) (s.heap.objs.size + 1) (.ins C s.heap.objs.size []))
    { s with heap := (s.heap.push PySem.W.emptyDict).push (PySem.W.instObj C s.heap.objs.size) } := by
  have e1 : (s.heap.push PySem.W.emptyDict).get? s.heap.objs.size = some PySem.W.emptyDict := Heap.get?_push_size s.heap rfl
  have e2 : ((s.heap.push PySem.W.emptyDict).push (PySem.W.instObj C s.heap.objs.size)).get? (s.heap.objs.size + 1) = some (PySem.W.instObj C s.heap.objs.size) := by
    have := Heap.get?_push_size (s.heap.push PySem.W.emptyDict) (o := PySem.W.instObj C s.heap.objs.size) rfl
    rwa [Heap.size_push] at this
  have e3 : (s.heap.push PySem.W.emptyDict).Ns s.heap.objs.size (fun _ => none) := ⟨PySem.W.emptyDict, #[], _, e1, rfl, (fun e he => absurd he (by simp)), fun _ => rfl⟩
  have I1 := I.laid (a := s.heap.objs.size) (o := .own (s.heap.objs.size + 1)) (h' := s.heap.push PySem.W.emptyDict) (t' := s.toks) (fun b u q => Heap.get?_push_of_some _ q) (Nat.le_refl _) ⟨_, e1⟩
  refine I1.laid (a := s.heap.objs.size + 1) (o := .ins C s.heap.objs.size []) (t' := s.toks) (fun b u q => Heap.get?_push_of_some _ q) (Nat.le_of_eq (Heap.size_push _ _)) ?_
  have ne : s.heap.objs.size ≠ s.heap.objs.size + 1 := Nat.ne_of_lt (Nat.lt_succ_self _)
  refine ⟨by rw [upd_ne ne, upd_same], Nat.zero_le _, ne, e2, fun _ => none, (Heap.Ns1.of_empty e3).at fun o q => Heap.get?_push_of_some _ q, fun _ => True.intro, fun y hy => absurd rfl hy⟩
theorem attr_of {prog : Program} {w : World} {env : Env} {e : Expr} {f : Str} {pos : Pos} {s : Shared} {Q : Value → Shared → Prop} (hb : attributeBase e f env (eval e env) = eval e env)
    (h : wpAny (model prog w) A (eval e env) (fun o s₁ => wpAny (model prog w) A (getAttr o f true) Q E s₁) E s) : wpAny (model prog w) A (eval (.Attribute e f pos) env) Q E s :=
  Attribute_any_ h (by rw [arm_eval_Attribute, hb])
end
def tFld (K : PySem.W.Frag) (ta : TE) (f : Str) : TE := fun σ H Q => ta σ H fun x H1 => ∃ a C dx fs v, x = .ref a ∧ H1 a = some (.ins C dx fs) ∧ Cls K C ∧ NoAttr K C f ∧ fs.lookup f = some v ∧ Q v H1
def tCon (K : PySem.W.Frag) (ta : TE) (f : Str) : TE := fun σ H Q => ta σ H fun x H1 => ∃ a C dx fs v u, x = .ref a ∧ H1 a = some (.ins C dx fs) ∧ Cls K C ∧ Con K C f v u ∧ fs.lookup f = none ∧ Q v H1
def sFld (K : PySem.W.Frag) (ta tv : TE) (f : Str) : TS := fun D σ H => tv σ H fun y H1 => ta σ H1 fun x H2 => ∃ a C dx fs, x = .ref a ∧ H2 a = some (.ins C dx fs) ∧ Cls K C ∧ NoAttr K C f ∧ fs.length < 1000 ∧
  D.nx σ (upd H2 a (.ins C dx (putF f y fs)))
def InOp (X : Cx) (op : Operator) (rd : V → V → Hp → VK → Prop) : Prop :=
  ∀ (pins : List (Addr × Obj)) (s : Shared) (σ : St) (H : Hp) (x y : V) (u v : Value) (Q : VK), Inv X pins σ H s → RelV x u → RelV y v → rd x y H Q → wpAny (model X.prog X.w) X.A (inplaceOp op u v) (EP X pins σ Q) X.xe s
def sFldAug (K : PySem.W.Frag) (ta tv : TE) (rd : V → V → Hp → VK → Prop) (f : Str) : TS := fun D σ H => ta σ H fun x H1 => ∃ a C dx fs v, x = .ref a ∧ H1 a = some (.ins C dx fs) ∧ Cls K C ∧ NoAttr K C f ∧ fs.lookup f = some v ∧
  tv σ H1 fun y H2 => rd v y H2 fun z H3 => ∃ dx' fs', H3 a = some (.ins C dx' fs') ∧ fs'.length < 1000 ∧ D.nx σ (upd H3 a (.ins C dx' (putF f z fs')))
section
variable {X : Cx} {o e value : Expr} {f : Str} {pos pos' tpos : Pos} {ta tv : TE}
def rAdd : V → V → Hp → VK → Prop := fun x y H Q => ∃ i j, x = .int i ∧ y = .int j ∧ Q (.int (i + j)) H
def rSub : V → V → Hp → VK → Prop := fun x y H Q => ∃ i j, x = .int i ∧ y = .int j ∧ Q (.int (i - j)) H
end
section
variable {X : Cx} {pins : List (Addr × Obj)} {σ : St} {H : Hp} {s : Shared} {A : Around} {E : Value → Shared → Prop} {Q : Value → Shared → Prop} {c : Value} {b : Bool}
inductive TyOf (K : PySem.W.Frag) (H : Hp) : V → Value → Prop where
  | non : TyOf K H .non (.type "NoneType")
  | bl (x : Bool) : TyOf K H (.bl x) (.type "bool")
  | int (i : Int) : TyOf K H (.int i) (.type "int")
  | str (x : Str) : TyOf K H (.str x) (.type "str")
  | flt (x : UInt64) : TyOf K H (.flt x) (.type "float")
  | lst {a : Addr} {xs : List V} (e : H a = some (.lst xs)) : TyOf K H (.ref a) (.type "list")
  | frz {a : Addr} {o : Obj} {xs : List V} (e : H a = some (.frz o (.lst xs))) : TyOf K H (.ref a) (.type "list")
  | tup {a : Addr} {xs : List V} (e : H a = some (.tup xs)) : TyOf K H (.ref a) (.type "tuple")
  | dK {a : Addr} {kvs : List (Key × V)} (e : H a = some (.dK kvs)) : TyOf K H (.ref a) (.type "dict")
  | dT {a : Addr} {kvs : List (List Key × V)} (e : H a = some (.dT kvs)) : TyOf K H (.ref a) (.type "dict")
  | ins {a C dx : Addr} {fs : List (Str × V)} (e : H a = some (.ins C dx fs)) (cl : Cls K C) (ha : PySem.W.findIn K (.ref C) "__class__" = some (some (.builtin "object.__class__")))
      (hn : PySem.W.specialIn K (.builtin "object.__class__") "__get__" = some (some (.builtin "getset_descriptor.__get__"))) (htk : PySem.W.takesIn K (.builtin "object.__class__") = some true)
      (hm : PySem.W.mroIn K C (.type "object") = some true) : TyOf K H (.ref a) (.ref C)
theorem isinst_ok {x : V} {u t : Value} (I : Inv X pins σ H s) (rx : RelV x u) (ty : TyOf X.K H x t) (e : PySem.W.kitOne X.K t c = some b) (h : ∀ tk, Q (.bool b) { s with toks := tk }) :
    wpAny (model X.prog X.w) A (call (.builtin "isinstance") [u, c]) Q E s := by
  cases ty with
  | non => cases (show u = Value.none from rx); exact PySem.W.kia_one PySem.W.kitx_none I.kIn True.intro e (fun z => nomatch z) h
  | bl y => cases (show u = Value.bool y from rx); exact PySem.W.kia_one PySem.W.kitx_bool I.kIn True.intro e (fun z => nomatch z) h
  | int i => obtain ⟨t, q⟩ := (show ∃ t, u = Value.int i t from rx); cases q; exact PySem.W.kia_one PySem.W.kitx_int I.kIn True.intro e (fun z => nomatch z) h
  | str y => obtain ⟨t, q⟩ := (show ∃ t, u = Value.str y t from rx); cases q; exact PySem.W.kia_one PySem.W.kitx_str I.kIn True.intro e (fun z => nomatch z) h
  | flt y => obtain ⟨t, q⟩ := (show ∃ t, u = Value.float y t from rx); cases q; exact PySem.W.kia_one PySem.W.kitx_float I.kIn True.intro e (fun z => nomatch z) h
  | @lst a xs ea =>
    cases (show u = Value.ref a from rx)
    obtain ⟨_, _, n, _, h1⟩ := (show ObjOk X.prog X.w H s.heap a (.lst xs) from I.hok a _ ea)
    exact PySem.W.kia_one PySem.W.kitx_list I.kIn ⟨_, h1, rfl⟩ e (fun z => nomatch z) h
  | @frz a ob xs ea =>
    cases (show u = Value.ref a from rx)
    obtain ⟨_, _, _, n, _, h1⟩ := (show ObjOk X.prog X.w H s.heap a (.frz ob (.lst xs)) from I.hok a _ ea)
    exact PySem.W.kia_one PySem.W.kitx_list I.kIn ⟨_, h1, rfl⟩ e (fun z => nomatch z) h
  | @tup a xs ea =>
    cases (show u = Value.ref a from rx)
    obtain ⟨_, _, _, p⟩ := (show ObjOk X.prog X.w H s.heap a (.tup xs) from I.hok a _ ea)
    obtain ⟨o, h1, h2, _⟩ := p
    exact PySem.W.kia_one PySem.W.kitx_tuple I.kIn ⟨o, h1, h2⟩ e (fun z => nomatch z) h
  | @dK a kvs ea =>
    cases (show u = Value.ref a from rx)
    obtain ⟨_, _, vs, _, p⟩ := (show ObjOk X.prog X.w H s.heap a (.dK kvs) from I.hok a _ ea)
    obtain ⟨o, es, ep, h1, h2, _⟩ := p
    exact PySem.W.kia_one PySem.W.kitx_dict I.kIn ⟨o, h1, h2.1⟩ e (fun z => nomatch z) h
  | @dT a kvs ea =>
    cases (show u = Value.ref a from rx)
    obtain ⟨_, _, xs, _, o, es, ep, h1, h2, _⟩ := (show ObjOk X.prog X.w H s.heap a (.dT kvs) from I.hok a _ ea)
    exact PySem.W.kia_one PySem.W.kitx_dict I.kIn ⟨o, h1, h2.1⟩ e (fun z => nomatch z) h
  | @ins a C dx fs ea cl ha hn htk hm =>
    cases (show u = Value.ref a from rx)
    obtain ⟨mA, O, _⟩ := ins_get I.hok ea
    obtain ⟨od, J, _⟩ := O.look
    exact PySem.W.kia_one (PySem.W.kitx_own (cl.get _) cl.hd ha hn htk hm) I.kIn J e (fun z => nomatch z) h
end
end L2
namespace L2
open PySem PySem.Spec PyProof.Rows
structure Room (k : Nat) (A : Around) : Prop where
  hd : A.handled = none
  dp : A.depth + 3 * k + 5 < recursionLimit
  un : A.units + 16 * k + 200 < cLine
theorem Room.mono {j k : Nat} {A : Around} (r : Room k A) (h : j ≤ k) : Room j A := ⟨r.hd, by have := r.dp; omega, by have := r.un; omega⟩
theorem Room.deeper {k : Nat} {A : Around} (r : Room (k + 1) A) (env : Env) : Room k (A.deeper env) :=
  ⟨r.hd, by have := r.dp; show A.depth + 1 + 3 * k + 5 < _; omega, by have := r.un; show A.units + 3 + 16 * k + 200 < _; omega⟩
theorem Room.in1 {k : Nat} {A : Around} (r : Room (k + 1) A) : Room k A.in1 :=
  ⟨r.hd, by have := r.dp; show A.depth + 3 * k + 5 < _; omega, by have := r.un; show A.units + 1 + 16 * k + 200 < _; omega⟩
theorem make_depth {A : Around} {C : Addr} {us : List Value} {kw : List (Str × Value)} : (A.under (.builtin "type.__call__" ⟨.ref C :: us, kw⟩)).depth = A.depth + 1 := by
  first | rfl | simp [Around.under, Code.weight, Code.isCreation, Code.isGuard, Code.isCaller, Code.frames, Code.isFrame, guardIds]
theorem make_units {A : Around} {C : Addr} {us : List Value} {kw : List (Str × Value)} : (A.under (.builtin "type.__call__" ⟨.ref C :: us, kw⟩)).units = A.units + 1 := by
  first | rfl | simp [Around.under, Code.cUnits, Code.frames, Code.isFrame]
theorem Room.make {k : Nat} {A : Around} (r : Room (k + 1) A) (C : Addr) (us : List Value) (kw : List (Str × Value)) : Room k (A.under (.builtin "type.__call__" ⟨.ref C :: us, kw⟩)) :=
  ⟨r.hd, by have := r.dp; rw [make_depth]; omega, by have := r.un; rw [make_units]; omega⟩
theorem Room.depth {k : Nat} {A : Around} (r : Room k A) : A.depth < recursionLimit := by have := r.dp; omega
theorem Room.units {k : Nat} {A : Around} (r : Room k A) : A.units + 64 < cLine := by have := r.un; omega
def tNil : TA := fun _ H Q => Q [] H
def tCons (ta : TE) (tr : TA) : TA := fun σ H Q => ta σ H fun x H1 => tr σ H1 fun xs H2 => Q (x :: xs) H2
section
variable {X : Cx} {e : Expr} {es : List Expr} {te : TE} {t : TA} {pos : Pos}
theorem pa_nil : PA X [] tNil := fun _ _ _ _ H Q I h => Calls.spliced_nil ⟨[], H, I, .nil, h⟩
theorem pa_cons (ha : PE X e te) (hr : PA X es t) (hs : starEach (e :: es) X.env = (false, eval e X.env) :: starEach es X.env := by rfl) : PA X (e :: es) (tCons te t) := by
  intro pos pins s σ H Q I h
  rw [hs]
  show wpAny _ _ (spliced ((false, eval e X.env) :: backTo pos (starEach es X.env))) _ _ s
  refine Calls.spliced_cons (thn (ha pins s σ H _ I h) fun u s1 ⟨x, H1, I1, r1, q1⟩ => ?_)
  exact thn (hr pos pins s1 σ H1 _ I1 q1) fun us s2 ⟨xs, H2, I2, r2, q2⟩ => ⟨x :: xs, H2, I2, .cons r1 r2, q2⟩
def tTup (t : TA) : TE := fun σ H Q => t σ H fun xs H1 => xs.length ≤ sizeLine ∧ ∀ p, H1 p = none → Q (.ref p) (upd H1 p (.tup xs))
def tLst (t : TA) : TE := fun σ H Q => t σ H fun xs H1 => xs.length ≤ sizeLine ∧ ∀ p, H1 p = none → Q (.ref p) (upd H1 p (.lst xs))
theorem pe_tup {x1} (h : PA X es t) : PE X (.Tuple es x1 pos) (tTup t) := by
  intro pins s σ H Q I hq
  refine wpAny_Tuple_spliced (thn (h pos pins s σ H _ I hq) fun us s1 ⟨xs, H1, I1, r, z, q⟩ => ⟨by rw [← r.length]; exact z, ?_⟩)
  have hf : H1 s1.heap.objs.size = none := I1.hok.fresh (Nat.le_refl _)
  refine ⟨.ref s1.heap.objs.size, upd H1 s1.heap.objs.size (.tup xs), I1.laid (t' := s1.toks) (fun b u e => Heap.get?_push_of_some _ e) (Nat.le_refl _) ?_, rfl, q _ hf⟩
  exact ⟨z, us, r, ⟨_, Heap.get?_push_size _ rfl, rfl, _, rfl⟩⟩
theorem pe_lst (h : PA X es t) : PE X (.List es pos) (tLst t) := by
  intro pins s σ H Q I hq
  refine wpAny_List_spliced (thn (h pos pins s σ H _ I hq) fun us s1 ⟨xs, H1, I1, r, z, q⟩ => ⟨by rw [← r.length]; exact z, ?_⟩)
  have hf : H1 s1.heap.objs.size = none := I1.hok.fresh (Nat.le_refl _)
  refine ⟨.ref s1.heap.objs.size, upd H1 s1.heap.objs.size (.lst xs), I1.laid (t' := s1.toks) (fun b u e => Heap.get?_push_of_some _ e) (Nat.le_refl _) ?_, rfl, q _ hf⟩
  exact ⟨z, us, 0, r, Heap.get?_push_size _ rfl⟩
end
abbrev Sp := List V → Hp → VK → XK → Prop
abbrev CXT := List Env → Hp → Shared → XK → Value → Shared → Prop
structure Env0 (P : Program) (w : World) (K : PySem.W.Frag) (mg : Str → Option Value) (base : Heap) (A : Around) (outer : List Env) (s : Shared) (H : Hp) : Prop where
  frames : A.frames = some outer
  mod : Mod K mg base
  bs : ∀ b o, base.get? b = some o → s.heap.get? b = some o ∧ H b = none
  bsz : base.objs.size ≤ s.heap.objs.size
  funs : s.heap.FunFrames base outer
  frf : ∀ b ∈ frs outer, H b = none
  hok : HOk P w H s.heap
  bare : AllBare s.gens
def CE (outer : List Env) (P : Program) (w : World) (H : Hp) (s : Shared) (Q : VK) (u : Value) (s' : Shared) : Prop :=
  ∃ v H', s'.os = s.os ∧ AllBare s'.gens ∧ Un (frs outer) [] H H' s.heap s'.heap ∧ HOk P w H' s'.heap ∧ RelV v u ∧ Q v H'
def CR (CX : CXT) (outer : List Env) (P : Program) (w : World) (H : Hp) (s : Shared) (Q : VK) (E : XK) (r : Result) (s' : Shared) : Prop :=
  match r with
  | .ok (.ret u) => CE outer P w H s Q u s'
  | .ok _ => False
  | .error e => CX outer H s E e s'
structure FnOk (P : Program) (w : World) (K : PySem.W.Frag) (mg : Str → Option Value) (base : Heap) (CX : CXT) (k : Nat) (f : Addr) (fd : FuncData) (ps : List Str) (sp : Sp) : Prop where
  len : ∀ vs H Q E, sp vs H Q E → vs.length = ps.length
  run : ∀ (A : Around) (outer : List Env) (s : Shared) (H : Hp) (args : Args) (us : List Value) (vs : List V) (Q : VK) (E : XK), Room k A → Env0 P w K mg base A outer s H → BindsTo s fd args (ps.zip us) → Vals vs us → sp vs H Q E →
    codeAny (model P w) A (.call (.ref f) args) (CR CX outer P w H s Q E) s
theorem FnOk.mono {P : Program} {w : World} {K : PySem.W.Frag} {mg : Str → Option Value} {base : Heap} {CX : CXT} {j k : Nat} {f : Addr} {fd : FuncData} {ps : List Str} {sp : Sp} (F : FnOk P w K mg base CX j f fd ps sp) (h : j ≤ k) :
    FnOk P w K mg base CX k f fd ps sp := ⟨F.len, fun A outer s H args us vs Q E hr => F.run A outer s H args us vs Q E (hr.mono h)⟩
theorem FnOk.imp {P : Program} {w : World} {K : PySem.W.Frag} {mg : Str → Option Value} {base : Heap} {CX : CXT} {k : Nat} {f : Addr} {fd : FuncData} {ps : List Str} {sp sp' : Sp} (F : FnOk P w K mg base CX k f fd ps sp)
    (h : ∀ vs H Q E, sp' vs H Q E → sp vs H Q E) : FnOk P w K mg base CX k f fd ps sp' :=
  ⟨fun vs H Q E q => F.len vs H Q E (h _ _ _ _ q), fun A outer s H args us vs Q E hr he hb hv hs => F.run A outer s H args us vs Q E hr he hb hv (h _ _ _ _ hs)⟩
theorem Env0.make {P : Program} {w : World} {K : PySem.W.Frag} {mg : Str → Option Value} {base : Heap} {A : Around} {outer : List Env} {s : Shared} {H : Hp} (e : Env0 P w K mg base A outer s H) (C : Addr) (us : List Value) (kw : List (Str × Value)) :
    Env0 P w K mg base (A.under (.builtin "type.__call__" ⟨.ref C :: us, kw⟩)) outer s H := ⟨by first | exact e.frames | (simpa [Around.under, Code.envs, Code.isFrame, pushEnvs] using e.frames), e.mod, e.bs, e.bsz, e.funs, e.frf, e.hok, e.bare⟩
theorem Env0.in1 {P : Program} {w : World} {K : PySem.W.Frag} {mg : Str → Option Value} {base : Heap} {A : Around} {outer : List Env} {s : Shared} {H : Hp} (e : Env0 P w K mg base A outer s H) :
    Env0 P w K mg base A.in1 outer s H := ⟨e.frames, e.mod, e.bs, e.bsz, e.funs, e.frf, e.hok, e.bare⟩
section
variable {X : Cx} {pins : List (Addr × Obj)} {σ : St} {H : Hp} {s s' : Shared}
theorem Inv.env0 (I : Inv X pins σ H s) : Env0 X.prog X.w X.K X.mg X.base X.A X.stack s H :=
  ⟨I.ok.frames, I.ok.mod, I.bs, Nat.le_trans I.ok.bsz I.sz, I.stack, I.stkFree, I.hok, I.bare⟩
theorem Inv.after {Q : VK} {u : Value} (I : Inv X pins σ H s) (h : CE X.stack X.prog X.w H s Q u s') : EP X pins σ Q u s' := by
  obtain ⟨v, H', os, bare, un, hok, r, q⟩ := h
  obtain ⟨hh, g, d, t, os'⟩ := s'
  obtain rfl : os' = s.os := os
  exact ⟨v, H', I.call (h' := hh) (g' := g) (d' := d) (t' := t) (ch := []) un hok bare (fun b z => absurd z (by simp)), r, q⟩
end
def tCall (sp : Sp) (dvs : List V) (E : XK) (t : TA) : TE := fun σ H Q => t σ H fun vs H1 => sp (vs ++ dvs) H1 Q E
def tMeth (C : Addr) (m : Str) (sp : Sp) (dvs : List V) (E : XK) (ta : TE) (t : TA) : TE := fun σ H Q => ta σ H fun x H1 => ∃ a dx fs, x = .ref a ∧ H1 a = some (.ins C dx fs) ∧ fs.lookup m = none ∧
  t σ H1 fun vs H2 => sp (x :: (vs ++ dvs)) H2 Q E
def tMake (C : Addr) (sp : Sp) (dvs : List V) (E : XK) (t : TA) : TE := fun σ H Q => t σ H fun vs H1 => ∀ x dx, H1 x = none → H1 dx = none → dx ≠ x →
  sp (.ref x :: (vs ++ dvs)) (upd (upd H1 dx (.own x)) x (.ins C dx [])) (fun v H2 => v = .non ∧ Q (.ref x) H2) E
def Binds (K : PySem.W.Frag) (fd : FuncData) (ps : List Str) (ds : List Value) : Prop :=
  ∀ (s : Shared) (us : List Value), K.In s.heap → (us ++ ds).length = ps.length → BindsTo s fd ⟨us, []⟩ (ps.zip (us ++ ds))
theorem Binds.all {K : PySem.W.Frag} {fd : FuncData} {ps : List Str} (h : ∀ us : List Value, us.length = ps.length → bindArgs fd ⟨us, []⟩ = pure (ps.zip us)) : Binds K fd ps [] := fun s us _ hl => by
  rw [List.append_nil] at hl ⊢
  exact .of_eq (h us hl)
def Passes (CX : CXT) (X : Cx) (E : XK) : Prop := ∀ (pins : List (Addr × Obj)) (σ : St) (H : Hp) (s : Shared) (e : Value) (s' : Shared), Inv X pins σ H s → CX X.stack H s E e s' → X.xe e s'
section
variable {X : Cx} {CX : CXT} {k : Nat} {f C : Addr} {fd : FuncData} {ps : List Str} {sp : Sp} {dvs : List V} {ds : List Value} {E : XK} {x m : Str} {p pos apos : Pos} {e o : Expr} {es : List Expr} {ta : TE} {t : TA}
theorem run_fn {pins : List (Addr × Obj)} {σ : St} {H : Hp} {s : Shared} {Q : VK} {us : List Value} {vs : List V} (F : FnOk X.prog X.w X.K X.mg X.base CX k f fd ps sp) (hr : Room k X.A) (hb : Binds X.K fd ps ds) (hd : Vals dvs ds) (hx : Passes CX X E)
    (I : Inv X pins σ H s) (r : Vals vs us) (h : sp (vs ++ dvs) H Q E) : wpAny (model X.prog X.w) X.A (call (.ref f) us) (EP X pins σ Q) X.xe s := by
  have r2 : Vals (vs ++ dvs) (us ++ ds) := r.append hd
  have hl : (us ++ ds).length = ps.length := by rw [← r2.length]; exact F.len _ _ _ _ h
  refine wpAny_call (codeAny_mono (F.run X.A X.stack s H ⟨us, []⟩ (us ++ ds) (vs ++ dvs) Q E hr I.env0 (hb s us I.kIn hl) r2 h) fun r s' hq => ?_)
  cases r with
  | error e => exact hx pins σ H s e s' I hq
  | ok fl =>
    cases fl with
    | ret u => exact I.after hq
    | next => exact False.elim hq
    | brk => exact False.elim hq
    | cont => exact False.elim hq
theorem pe_call (F : FnOk X.prog X.w X.K X.mg X.base CX k f fd ps sp) (hr : Room k X.A) (hg : Gl X x) (hm : X.mg x = some (.ref f)) (hk : PySem.W.keepIn X.K (.ref f) = true) (hb : Binds X.K fd ps ds) (hd : Vals dvs ds) (hx : Passes CX X E)
    (ha : PA X (e :: es) t) (hdb : (x == ("__debug__" : Str)) = false := by decide) (he : starEach (e :: es) X.env = (false, eval e X.env) :: starEach es X.env := by rfl) (hpl : (backTo pos (starEach es X.env)).any (·.1) = false := by rfl) :
    PE X (.Call (.Name x p) (e :: es) [] pos) (tCall sp dvs E t) := by
  intro pins s σ H Q I h
  refine wpAny_Call_Name_kw (ld_glob I hg hm ?_ hdb)
  refine PySem.W.callWith_K (h₀ := X.base) I.ok.mod.kin hk (thn (ha pos pins s σ H _ I h) fun us s1 ⟨vs, H1, I1, r, q⟩ => ⟨I1.kIn, ?_⟩) he hpl
  exact run_fn F hr hb hd hx I1 r q
structure Mk (K : PySem.W.Frag) (C f : Addr) : Prop where
  makes : PySem.W.makesIn K C = true
  init : PySem.W.findIn K (.ref C) "__init__" = some (some (.ref f))
  fn : PySem.W.isFn K (.ref f) = true
  kp : PySem.W.keepIn K (.ref C) = true
end
def PK (X : Cx) (kws : List Keyword) (t : TA) : Prop :=
  ∀ (pos : Pos) (pins : List (Addr × Obj)) (s : Shared) (σ : St) (H : Hp) (Q : List V → Hp → Prop), Inv X pins σ H s → t σ H Q → wpAny (model X.prog X.w) X.A (evalAll ((backToKw pos (keywordEach kws X.env)).map (·.2))) (AP X pins σ Q) X.xe s
section
variable {X : Cx} {CX : CXT} {k : Nat} {f C : Addr} {fd : FuncData} {ps ks : List Str} {sp : Sp} {E : XK} {x m : Str} {p pos apos kpos : Pos} {e o : Expr} {es : List Expr} {kws : List Keyword} {te ta : TE} {t tk : TA} {nm : Option Str}
structure KBinds (K : PySem.W.Frag) (fd : FuncData) (ps ks : List Str) (g : List Value → List Value → List Value) (gV : List V → List V → List V) : Prop where
  to : ∀ (s : Shared) (us ws : List Value), K.In s.heap → (g us ws).length = ps.length → BindsTo s fd ⟨us, ks.zip ws⟩ (ps.zip (g us ws))
  rel : ∀ {vs : List V} {us : List Value} {zs : List V} {ws : List Value}, Vals vs us → Vals zs ws → Vals (gV vs zs) (g us ws)
def tCallK (sp : Sp) (gV : List V → List V → List V) (E : XK) (t tk : TA) : TE := fun σ H Q => t σ H fun vs H1 => tk σ H1 fun zs H2 => sp (gV vs zs) H2 Q E
variable {g : List Value → List Value → List Value} {gV : List V → List V → List V}
end
structure FnScope (N P : List Str) (sc : Scope) : Prop where
  kind : sc.kind = .function
  co : sc.isCoroutine = false
  gen : sc.isGenerator = false
  nd : N.Nodup
  pre : N.take P.length = P
  par : ∀ x ∈ P, sc.names.lookup x = some .local ∨ sc.names.lookup x = some .cell
  nofree : ∀ y ∈ sc.names, y.2 ≠ .free
theorem bindL_out {kindOf : Str → Option NameKind} {x : Str} : ∀ {binds : List (Str × Value)} {m : Str → Option Value}, (∀ v, (x, v) ∉ binds) → bindL kindOf binds m x = m x
  | [], _, _ => rfl
  | (n, v) :: r, m, h => by
    unfold bindL
    rw [bindL_out fun w hw => h w (List.mem_cons_of_mem _ hw)]
    split
    · have : x ≠ n := by rintro rfl; exact h v List.mem_cons_self
      simp [this]
    · rfl
theorem bindC_out {kindOf : Str → Option NameKind} {x : Str} : ∀ {binds : List (Str × Value)} {m : Str → Option Value}, (∀ v, (x, v) ∉ binds) → bindC kindOf binds m x = m x
  | [], _, _ => rfl
  | (n, v) :: r, m, h => by
    unfold bindC
    rw [bindC_out fun w hw => h w (List.mem_cons_of_mem _ hw)]
    split
    · rfl
    · have : x ≠ n := by rintro rfl; exact h v List.mem_cons_self
      simp [this]
theorem bindL_get {kindOf : Str → Option NameKind} {x : Str} {v : Value} : ∀ {P : List Str} {vs : List Value} {i : Nat} {m : Str → Option Value}, P.Nodup → P[i]? = some x → vs[i]? = some v → kindOf x = some .local →
    bindL kindOf (P.zip vs) m x = some v
  | [], _, _, _, _, h, _, _ => by simp at h
  | _ :: _, [], _, _, _, _, h, _ => by simp at h
  | p :: P, w :: vs, 0, m, nd, h1, h2, hk => by
    simp at h1 h2; subst h1; subst h2
    show bindL kindOf ((p, w) :: P.zip vs) m p = _
    unfold bindL
    rw [bindL_out fun v hv => (List.nodup_cons.mp nd).1 (List.of_mem_zip hv).1, if_pos hk]
    simp
  | p :: P, w :: vs, i + 1, m, nd, h1, h2, hk => by
    show bindL kindOf ((p, w) :: P.zip vs) m x = _
    unfold bindL
    exact bindL_get (i := i) (List.nodup_cons.mp nd).2 (by simpa using h1) (by simpa using h2) hk
theorem bindC_get {kindOf : Str → Option NameKind} {x : Str} {v : Value} : ∀ {P : List Str} {vs : List Value} {i : Nat} {m : Str → Option Value}, P.Nodup → P[i]? = some x → vs[i]? = some v → kindOf x ≠ some .local →
    bindC kindOf (P.zip vs) m x = some v
  | [], _, _, _, _, h, _, _ => by simp at h
  | _ :: _, [], _, _, _, _, h, _ => by simp at h
  | p :: P, w :: vs, 0, m, nd, h1, h2, hk => by
    simp at h1 h2; subst h1; subst h2
    show bindC kindOf ((p, w) :: P.zip vs) m p = _
    unfold bindC
    rw [bindC_out fun v hv => (List.nodup_cons.mp nd).1 (List.of_mem_zip hv).1, if_neg hk]
    simp
  | p :: P, w :: vs, i + 1, m, nd, h1, h2, hk => by
    show bindC kindOf ((p, w) :: P.zip vs) m x = _
    unfold bindC
    exact bindC_get (i := i) (List.nodup_cons.mp nd).2 (by simpa using h1) (by simpa using h2) hk
def start (N : List Str) (vs : List V) : St := vs.map some ++ List.replicate (N.length - vs.length) none
def cxOf (CX : CXT) (P : Program) (w : World) (K : PySem.W.Frag) (mg : Str → Option Value) (base : Heap) (N : List Str) (qual : Str) (scope : Scope) (f : Addr) (cd : Value) (A : Around) (outer : List Env) (s : Shared) (H : Hp) (E : XK) : Cx where
  prog := P
  w := w
  K := K
  mg := mg
  base := base
  A := A.deeper (envOfC qual scope s.heap.objs.size f cd)
  N := N
  s₀ := s
  H₀ := H
  env := envOfC qual scope s.heap.objs.size f cd
  outer := outer
  stack := envOfC qual scope s.heap.objs.size f cd :: outer
  ex := []
  calm := true
  fn := fun _ => true
  pn := []
  xe := fun e s' => wpAny (model P w) (A.deeper (envOfC qual scope s.heap.objs.size f cd)) (leaving (envOfC qual scope s.heap.objs.size f cd) e) (fun _ s'' => CX outer H s E e s'') (fun e' s'' => CX outer H s E e' s'') s'
theorem cell_has {sc : Scope} {n : Nat} {x : Str} (h : sc.names.lookup x = some .cell) : ∃ c, (cellsFrom n sc.names []).lookup x = some c := by
  have q := PySem.W.cellsFrom_some sc.names n [] (.inl h)
  exact Option.isSome_iff_exists.mp q
theorem inv_start {CX : CXT} {P : Program} {w : World} {K : PySem.W.Frag} {mg : Str → Option Value} {base : Heap} {N ps : List Str} {qual : Str} {scope : Scope} {f : Addr} {cd : Value} {A : Around} {outer : List Env} {s s1 : Shared} {H : Hp} {E : XK} {us : List Value} {vs : List V}
    (S : FnScope N ps scope) (hd : A.handled = none) (e0 : Env0 P w K mg base A outer s H) (hl : vs.length = ps.length) (r : Vals vs us)
    (x : InCallC s s.heap.objs.size (bindL (envOfC qual scope s.heap.objs.size f cd).kindOf (ps.zip us) fun _ => none) (cellsFrom (s.heap.objs.size + 1) scope.names []) (bindC (envOfC qual scope s.heap.objs.size f cd).kindOf (ps.zip us) fun _ => none) s1) :
    Inv (cxOf CX P w K mg base N qual scope f cd A outer s H E) [] (start N vs) H s1 := by
  have hpl : ps.length ≤ N.length := by have := congrArg List.length S.pre; rw [List.length_take] at this; omega
  obtain ⟨h1, tk, rfl, hk⟩ := x.done
  have noA : ∀ b : Addr, b ∉ (cxOf CX P w K mg base N qual scope f cd A outer s H E).ex := fun b z => absurd (show b ∈ ([] : List Addr) from z) (by simp)
  refine ⟨⟨e0.mod, S.kind, rfl, rfl, Nat.le_refl _, fun y z c h1 h2 => ?_, fun y hy => ?_, fun y c _ h => ?_, fun _ => hd, Around.frames_deeper e0.frames, .inr ⟨rfl, rfl⟩, fun b z => absurd z (noA b), e0.bs, e0.bsz, fun b _ _ => noA b, fun b z => absurd z (noA b), e0.funs, e0.frf⟩,
    rfl, e0.bare, Un.kept hk, ⟨_, x.toInCall.ns, fun i y v h1 h2 h3 => ?_⟩, fun y c h => ⟨_, x.cell y c h⟩, e0.hok.fresh (Nat.le_refl _), fun y c h => ?_, fun p hp => absurd (show p ∈ ([] : List (Addr × Obj)) from hp) (by simp), e0.hok.kept hk, ?_⟩
  · exact name_of_addr x.apart (PySem.mem_of_lookup h1) (PySem.mem_of_lookup h2)
  · have hy : scope.names.lookup y = some .cell ∨ scope.names.lookup y = some .free := hy
    rcases hy with hy | hy
    · exact cell_has hy
    · exact absurd rfl (S.nofree _ (PySem.mem_of_lookup hy))
  · exact Nat.le_of_lt (x.above y c (PySem.mem_of_lookup h))
  · have hi : i < vs.length := by
      unfold start at h2
      by_cases hi : i < vs.length
      · exact hi
      · rw [List.getElem?_append_right (by simpa using hi)] at h2
        rw [List.getElem?_replicate] at h2
        split at h2 <;> cases h2
    have ha : vs[i]? = some v := by
      unfold start at h2
      rw [List.getElem?_append_left (by simpa using hi), List.getElem?_map] at h2
      cases e : vs[i]? with
      | none => rw [e] at h2; cases h2
      | some a => rw [e] at h2; cases h2; rfl
    obtain ⟨u, hu, rv⟩ := r.get ha
    have hp : ps[i]? = some y := by
      rw [← S.pre, List.getElem?_take_of_lt (by omega)]; exact h1
    have ndP : ps.Nodup := by rw [← S.pre]; exact S.nd.sublist (List.take_sublist _ _)
    refine ⟨u, rv, ?_⟩
    rcases S.par y (List.mem_of_getElem? hp) with k | k
    · exact .inl ⟨k, bindL_get ndP hp hu k⟩
    · obtain ⟨c, e⟩ := cell_has (n := s.heap.objs.size + 1) k
      refine .inr ⟨.inl k, c, e, ?_⟩
      have q := x.cell y c e
      rw [bindC_get ndP hp hu (by show scope.names.lookup y ≠ _; rw [k]; decide)] at q
      exact q
  · exact e0.hok.fresh (Nat.le_of_lt (x.above y c (PySem.mem_of_lookup h)))
  · unfold start
    show _ = N.length
    rw [List.length_append, List.length_map, List.length_replicate]
    omega
theorem fn_of {CX : CXT} {P : Program} {w : World} {K : PySem.W.Frag} {mg : Str → Option Value} {base : Heap} {k : Nat} {f : Addr} {name qual : Str} {params : Arguments} {body : List Stmt} {scope : Scope} {dV kV doc pm cdv ct oc : Value} {an od : Option Addr}
    {osl : Array (Option Value)} {N ps : List Str} {sp : Sp} (lk : K.lookup f = some ⟨oc, od, .func (PySem.W.fnOf name qual params body scope dV kV doc pm an cdv ct), osl⟩) (hcd : PySem.W.codeIn K cdv qual = true) (S : FnScope N ps scope)
    (len : ∀ vs H Q E, sp vs H Q E → vs.length = ps.length)
    (hbody : ∀ (A : Around) (outer : List Env) (s : Shared) (H : Hp) (vs : List V) (Q : VK) (E : XK), Room k (A.deeper (envOfC qual scope s.heap.objs.size f cdv)) → sp vs H Q E →
      ∃ t, PSs (cxOf CX P w K mg base N qual scope f cdv A outer s H E) body t ∧ t { nx := fun _ H' => Q .non H', rt := Q } (start N vs) H) :
    FnOk P w K mg base CX (k + 1) f (PySem.W.fnOf name qual params body scope dV kV doc pm an cdv ct) ps sp := by
  refine ⟨len, fun A outer s H args us vs Q E hr e0 hb r hsp => ?_⟩
  have hl := len _ _ _ _ hsp
  have KX : K.In s.heap := e0.mod.kin.keeps fun b o e => (e0.bs b o e).1
  have lim : s.heap.NoLimit := e0.mod.nolimit.keeps fun b o e => (e0.bs b o e).1
  have hkind : ∀ y ∈ ps.zip us, scope.names.lookup y.1 = some .local ∨ (scope.names.lookup y.1 = some .cell ∧ ((cellsFrom (s.heap.objs.size + 1) scope.names []).lookup y.1).isSome = true) := fun ⟨n, v⟩ hy => by
    rcases S.par n (List.of_mem_zip hy).1 with q | q
    · exact .inl q
    · exact .inr ⟨q, PySem.W.cellsFrom_some _ _ _ (.inl q)⟩
  refine codeAny_call_function hr.depth (KX _ _ lk) rfl S.co S.gen rfl (PySem.W.codeRec_of KX hcd) (hb _ _ _ _ ?_)
  refine wpAny_newFunctionEnv_cells S.kind hkind fun env he s1 x => ?_
  subst he
  refine ⟨lim.keeps x.toInCall.keep, codeAny_func ?_⟩
  obtain ⟨t, ht, hq⟩ := hbody A outer s H vs Q E (hr.deeper _) hsp
  have I : Inv (cxOf CX P w K mg base N qual scope f cdv A outer s H E) [] (start N vs) H s1 := inv_start S hr.hd e0 hl r x
  refine wpAny_mono (ht [] s1 (start N vs) H _ I hq) (fun fl s' hs => ?_) fun e s' hs => hs
  have fin : ∀ {σ' : St} {H' : Hp} {v : V} {u : Value}, Inv (cxOf CX P w K mg base N qual scope f cdv A outer s H E) [] σ' H' s' → RelV v u → Q v H' → CE outer P w H s Q u s' :=
    fun {σ' H' v u} J rv q => ⟨v, H', J.os, J.bare, J.base, J.hok, rv, q⟩
  cases fl with
  | ret u =>
    obtain ⟨v, σ', H', J, rv, q⟩ := hs
    exact fin J rv q
  | next =>
    obtain ⟨σ', H', J, q⟩ := hs
    exact fin (v := V.non) (u := Value.none) J rfl q
  | brk =>
    obtain ⟨_, _, _, q⟩ := hs
    exact False.elim q
  | cont =>
    obtain ⟨_, _, _, q⟩ := hs
    exact False.elim q
end L2
namespace L2
open PySem PySem.Spec PyProof.Rows
section
variable {X : Cx} {x : Str} {p pos : Pos} {e : Expr} {es : List Expr} {t : TA} {id T : String} {r : List V → Hp → VK → Prop}
def tCB (r : List V → Hp → VK → Prop) (t : TA) : TE := fun σ H Q => t σ H fun vs H1 => r vs H1 Q
theorem pe_callB (hc : CallR X (.builtin id) r) (hg : Gl X x) (hm : X.mg x = none) (hv : bootBuiltins x = some (.builtin id)) (ha : PA X (e :: es) t) (hn : x ≠ "__name__" := by decide) (hdb : (x == ("__debug__" : Str)) = false := by decide)
    (he : starEach (e :: es) X.env = (false, eval e X.env) :: starEach es X.env := by rfl) (hpl : (backTo pos (starEach es X.env)).any (·.1) = false := by rfl) : PE X (.Call (.Name x p) (e :: es) [] pos) (tCB r t) := by
  intro pins s σ H Q I h
  refine wpAny_Call_Name_kw (ld_blt I hg hm hv ?_ hn hdb)
  exact PyProof.Rows.callWith_builtin1 (thn (ha pos pins s σ H _ I h) fun us s1 ⟨vs, H1, I1, r1, q1⟩ => hc pins s1 σ H1 vs us Q I1 r1 q1) he hpl
theorem pe_callTy (hc : CallR X (.type T) r) (hg : Gl X x) (hm : X.mg x = none) (hv : bootBuiltins x = some (.type T)) (ha : PA X (e :: es) t) (hn : x ≠ "__name__" := by decide) (hdb : (x == ("__debug__" : Str)) = false := by decide)
    (he : starEach (e :: es) X.env = (false, eval e X.env) :: starEach es X.env := by rfl) (hpl : (backTo pos (starEach es X.env)).any (·.1) = false := by rfl) : PE X (.Call (.Name x p) (e :: es) [] pos) (tCB r t) := by
  intro pins s σ H Q I h
  refine wpAny_Call_Name_kw (ld_blt I hg hm hv ?_ hn hdb)
  exact PyProof.Rows.callWith_type1 (thn (ha pos pins s σ H _ I h) fun us s1 ⟨vs, H1, I1, r1, q1⟩ => hc pins s1 σ H1 vs us Q I1 r1 q1) he hpl
end
end L2
namespace HT
open PySem PyProof.Rows
def lexLt : List Int → List Int → Bool
  | [], [] => false
  | [], _ :: _ => true
  | _ :: _, [] => false
  | x :: xs, y :: ys => if x = y then lexLt xs ys else decide (x < y)
section
open PySem.SeqAt
open PySem.AutoSeq1 (wpAny_loadPart')
open PySem.MeetsSeq PySem.MeetsSeq2 PySem.MeetsSeq3
end
section
variable {prog : Program} {w : World} {A : Around} {E : Value → Shared → Prop} {s : Shared}
theorem cat_tup {t b : Addr} {vs ws : List Value} {Q : Value → Shared → Prop} (ht : IsTup s.heap t vs.toArray) (hb : IsTup s.heap b ws.toArray) (hv : vs ≠ [])
    (h1 : ws = [] → Q (.ref t) s) (h2 : ws ≠ [] → Q (.ref s.heap.objs.size) { s with heap := s.heap.push { cls := .type "tuple", data := .seq (vs ++ ws).toArray } })
    (hsz : vs.length + ws.length ≤ sizeLine) : wpAny (model prog w) A (binaryOp .Add (.ref t) (.ref b)) Q E s := by
  obtain ⟨⟨cls, dd, data, sl⟩, ho, hc, n, hd⟩ := id ht
  obtain ⟨⟨cls2, dd2, data2, sl2⟩, ho2, hc2, n2, hd2⟩ := id hb
  simp only at hc hd hc2 hd2
  subst hc hd hc2 hd2
  have e : vs.toArray ++ ws.toArray = (vs ++ ws).toArray := by simp
  by_cases hw : ws = []
  · exact concat_meets ⟨_, ho, rfl⟩ ⟨_, ho2, rfl⟩ noFill_tuple_add seq_tuple_add PySem.F.slot_tuple_add PySem.F.entry_tuple_add (PySem.F.args_tuple_add_2 _ _)
      (tuple_addW1 t b vs.toArray ws.toArray n n2 dd dd2 sl sl2 (by simpa using hv) (by simp [hw])) ⟨ho, ho2, h1 hw⟩
  · refine concat_meets ⟨_, ho, rfl⟩ ⟨_, ho2, rfl⟩ noFill_tuple_add seq_tuple_add PySem.F.slot_tuple_add PySem.F.entry_tuple_add (PySem.F.args_tuple_add_2 _ _)
      (tuple_addW2 t b vs.toArray ws.toArray n n2 dd dd2 sl sl2 (by simpa using hv) (by simpa using hw) (by rw [List.size_toArray, List.size_toArray]; exact hsz)) ⟨ho, ho2, ?_⟩
    rw [e]
    exact h2 hw
def sIx (n d : Nat) : Option Int → Nat
  | none => d
  | some v => if v < 0 then (v + (n : Int)).toNat else min v.toNat n
theorem sIx_nat (n d k : Nat) : sIx n d (some (k : Int)) = min k n := by
  show (if (k : Int) < 0 then ((k : Int) + (n : Int)).toNat else min (k : Int).toNat n) = min k n
  rw [if_neg (by omega), Int.toNat_natCast]
theorem sIx_le (n d : Nat) (hd : d ≤ n) (o : Option Int) : sIx n d o ≤ n := by
  cases o with
  | none => exact hd
  | some v =>
    show (if v < 0 then (v + (n : Int)).toNat else min v.toNat n) ≤ n
    by_cases hv : v < 0
    · rw [if_pos hv]; omega
    · rw [if_neg hv]; exact Nat.min_le_right _ _
theorem clip_eq (v : Int) (n d : Nat) : (if v < 0 then max (v + (n : Int)) 0 else min v (n : Int)) = ((sIx n d (some v) : Nat) : Int) := by
  show (if v < 0 then max (v + (n : Int)) 0 else min v (n : Int)) = (((if v < 0 then (v + (n : Int)).toNat else min v.toNat n) : Nat) : Int)
  by_cases hv : v < 0
  · simp only [if_pos hv]; omega
  · simp only [if_neg hv]; omega
theorem adjust_gen (lo hi : Option Int) (n : Nat) : Builtin.Slice.sliceAdjust lo hi 1 (n : Int) = (((sIx n 0 lo : Nat) : Int), ((sIx n n hi : Nat) : Int)) := by
  have h1 : ¬ ((1 : Int) < 0) := by omega
  unfold Builtin.Slice.sliceAdjust
  simp only [h1, if_false]
  refine Prod.ext ?_ ?_
  · cases lo with
    | none => rfl
    | some v => exact clip_eq v n 0
  · cases hi with
    | none => rfl
    | some v => exact clip_eq v n n
theorem places_gen (i j : Nat) : Builtin.Slice.slicePlaces (i : Int) (j : Int) 1 = j - i := by
  unfold Builtin.Slice.slicePlaces
  have h1 : (1 : Int) > 0 := by omega
  simp only [h1, if_true, Int.ediv_one]
  split <;> omega
theorem slicePart_ {v : Value} {o : Option Int} {Q : Option Int → Shared → Prop} (p : IsPart v o) (h : Q o s) : wpAny (model prog w) A (Builtin.Slice.slicePartIndex v) Q E s := by
  cases p with
  | none => exact slicePart_none h
  | int i t => exact slicePart_int h
theorem sliceApplied_gen {sl : Addr} {vl vu : Value} {lo hi : Option Int} {n : Nat} {Q : Int × Int × Nat → Shared → Prop} (hs : s.heap.IsSliceOf sl vl vu .none) (pl : IsPart vl lo) (pu : IsPart vu hi)
    (h : Q (((sIx n 0 lo : Nat) : Int), 1, sIx n n hi - sIx n 0 lo) s) : wpAny (model prog w) A (Builtin.Slice.sliceApplied (.ref sl) (pure (n : Int))) Q E s := by
  obtain ⟨os, hos, hcs, hds⟩ := id hs
  unfold Builtin.Slice.sliceApplied Builtin.Slice.sliceFields
  refine wpAny_bind (wpAny_bind (wpAny_field hos hds (x := vl) rfl (wpAny_bind (wpAny_field hos hds (x := vu) rfl (wpAny_bind (wpAny_field hos hds (x := .none) rfl (wpAny_pure ?_)))))))
  refine wpAny_bind (slicePart_none ?_)
  show wpAny _ _ (if ((1 : Int) == 0) = true then _ else _) _ _ s
  rw [if_neg (by decide)]
  refine wpAny_bind (slicePart_ pl (wpAny_bind (slicePart_ pu (wpAny_bind (wpAny_pure ?_)))))
  show wpAny _ _ (match Builtin.Slice.sliceAdjust lo hi 1 (n : Int) with | (lo, hi) => pure (lo, (1 : Int), Builtin.Slice.slicePlaces lo hi 1)) _ _ s
  rw [adjust_gen lo hi n]
  show wpAny _ _ (pure (((sIx n 0 lo : Nat) : Int), (1 : Int), Builtin.Slice.slicePlaces ((sIx n 0 lo : Nat) : Int) ((sIx n n hi : Nat) : Int) 1)) _ _ s
  rw [places_gen]
  exact wpAny_pure h
theorem pick_gen (xs : Array Value) (i k : Nat) : ((List.range k).filterMap fun (m : Nat) => xs[((i : Int) + (m : Int) * 1).toNat]?).toArray = ((xs.toList.drop i).take k).toArray := by
  have e : (fun (m : Nat) => xs[((i : Int) + (m : Int) * 1).toNat]?) = fun m => xs[i + m]? := by
    funext m
    have : ((i : Int) + (m : Int) * 1).toNat = i + m := by omega
    rw [this]
  rw [e]
  have := pick_run xs i k
  rw [List.filterMap_map] at this
  have e2 : ((fun x => xs[x]?) ∘ fun x => i + x) = fun m => xs[i + m]? := rfl
  rw [e2] at this
  rw [this]
theorem getItem_tuple_cut {t sl : Addr} {items : Array Value} {vl vu : Value} {lo hi : Option Int} {Q : Value → Shared → Prop} (ht : IsTup s.heap t items) (hs : s.heap.IsSliceOf sl vl vu .none) (pl : IsPart vl lo) (pu : IsPart vu hi)
    (hw : ¬ (sIx items.size 0 lo = 0 ∧ sIx items.size items.size hi = items.size))
    (h : Q (.ref s.heap.objs.size) { s with heap := s.heap.push { cls := .type "tuple", data := .seq ((items.toList.drop (sIx items.size 0 lo)).take (sIx items.size items.size hi - sIx items.size 0 lo)).toArray } })
    (hsz : items.size ≤ sizeLine) : wpAny (model prog w) A (getItem (.ref t) (.ref sl)) Q E s := by
  have htake : sizeOk (.seq ((items.toList.drop (sIx items.size 0 lo)).take (sIx items.size items.size hi - sIx items.size 0 lo)).toArray) := by
    show ((items.toList.drop (sIx items.size 0 lo)).take (sIx items.size items.size hi - sIx items.size 0 lo)).toArray.size ≤ sizeLine
    rw [List.size_toArray, List.length_take, List.length_drop, Array.length_toList]
    omega
  have hj : sIx items.size items.size hi ≤ items.size := sIx_le _ _ (Nat.le_refl _) hi
  obtain ⟨os, hos, hcs, hds⟩ := id hs
  have hTs : s.TypeIs (.ref sl) "slice" := ⟨os, hos, hcs⟩
  unfold getItem
  try with_reducible refine wpAny_holding ?_
  first | refine wpAny_bind (wpAny_pure ?_) | skip
  refine wpAny_bind (wpAny_sequenceKey ht.typeIs (by decide) ?_)
  refine wpAny_bind (wpAny_callSpecial?_slot (name := Str.ofString "__getitem__") ht.typeIs PyProof.Rows.slot_tuple_getitem
    (wpAny_call_entry PyProof.Rows.slot_tuple_getitem ht.typeIs entry_tuple_getitem ?_ (args_tuple_getitem _ _)))
  show wpAny _ _ (Builtin.Tuple.tupleItemsOf (.ref t) >>= _) _ _ s
  refine wpAny_bind (tupleItemsOf_ ht ?_)
  refine wpAny_bind (wpAny_typeOf hTs ?_)
  rw [if_pos (by decide)]
  refine wpAny_bind (sliceApplied_gen hs pl pu ?_)
  have hno : ¬ ((((sIx items.size 0 lo : Nat) : Int) == 0 && (1 : Int) == 1 && (sIx items.size items.size hi - sIx items.size 0 lo) == items.size) = true) := by
    intro q
    rw [Bool.and_eq_true, Bool.and_eq_true] at q
    have q1 : ((sIx items.size 0 lo : Nat) : Int) = 0 := eq_of_beq q.1.1
    have q2 : sIx items.size items.size hi - sIx items.size 0 lo = items.size := eq_of_beq q.2
    exact hw ⟨by omega, by omega⟩
  show wpAny _ _ (if (((sIx items.size 0 lo : Nat) : Int) == 0 && (1 : Int) == 1 && (sIx items.size items.size hi - sIx items.size 0 lo) == items.size) = true then _ else _) _ _ s
  rw [if_neg hno, pick_gen]
  first
    | exact wpAny_bind (m := Builtin.Tuple.tupleExact _) (wpAny_newObj_type (wpAny_pure ⟨_, rfl, wpAny_pure h⟩) htake)
    | exact wpAny_bind (m := Builtin.Tuple.tupleExact _) (wpAny_newObj_type (wpAny_bind (wpAny_pure (wpAny_pure ⟨_, rfl, wpAny_pure h⟩))) htake)
    | exact wpAny_bind (wpAny_bind (m := Builtin.Tuple.tupleExact _) (wpAny_newObj_type (wpAny_pure (wpAny_pure ⟨_, rfl, wpAny_pure h⟩)) htake))
    | exact wpAny_bind (wpAny_bind (m := Builtin.Tuple.tupleExact _) (wpAny_newObj_type (wpAny_pure ⟨_, rfl, wpAny_pure h⟩) htake))
end
end HT
namespace L2
open PySem PySem.Spec PyProof.Rows
abbrev TO := St → Hp → (Option Int → Hp → Prop) → Prop
def PO (X : Cx) (e : Option Expr) (t : TO) : Prop :=
  ∀ (pins : List (Addr × Obj)) (s : Shared) (σ : St) (H : Hp) (Q : Option Int → Hp → Prop), Inv X pins σ H s → t σ H Q →
    wpAny (model X.prog X.w) X.A (evalPart e X.env) (fun u s' => ∃ o H', Inv X pins σ H' s' ∧ IsPart u o ∧ Q o H') X.xe s
def tNoPart : TO := fun _ H Q => Q none H
def tPart (t : TE) : TO := fun σ H Q => t σ H fun x H1 => ∃ i, x = .int i ∧ Q (some i) H1
section
variable {X : Cx} {e : Expr} {te : TE} {lo hi : Option Expr} {tl th : TO} {pos p2 : Pos}
theorem po_some (h : PE X e te) : PO X (some e) (tPart te) := by
  intro pins s σ H Q I hw
  rw [evalPart_some]
  refine thn (h pins s σ H _ I hw) fun u s1 ⟨x, H1, I1, r1, q1⟩ => ?_
  obtain ⟨i, rfl, q⟩ := q1
  obtain ⟨t, rfl⟩ := r1
  exact ⟨some i, H1, I1, .int i t, q⟩
def SlR (X : Cx) (r : V → Option Int → Option Int → Hp → VK → Prop) : Prop :=
  ∀ (pins : List (Addr × Obj)) (s : Shared) (σ : St) (H : Hp) (x : V) (v vl vu : Value) (lo hi : Option Int) (sl : Addr) (Q : VK), Inv X pins σ H s → RelV x v → s.heap.IsSliceOf sl vl vu .none → IsPart vl lo → IsPart vu hi → r x lo hi H Q →
    ∃ T id, typeLookup (.type T) "__getitem__" = pure (some (.builtin id)) ∧ s.TypeIs v T ∧ wpAny (model X.prog X.w) X.A (getItem v (.ref sl)) (EP X pins σ Q) X.xe s
def tSl (r : V → Option Int → Option Int → Hp → VK → Prop) (te : TE) (tl th : TO) : TE := fun σ H Q => te σ H fun x H1 => tl σ H1 fun l H2 => th σ H2 fun u H3 => r x l u H3 Q
theorem pe_slice {r : V → Option Int → Option Int → Hp → VK → Prop} (hr : SlR X r) (he : PE X e te) (hl : PO X lo tl) (hu : PO X hi th) : PE X (.Subscript e (.Slice lo hi none p2) pos) (tSl r te tl th) := by
  intro pins s σ H Q I h
  refine Subscript_ (thn (he pins s σ H _ I h) fun v s1 ⟨x, H1, I1, r1, q1⟩ => ?_)
  refine wpAny_Slice (thn (hl pins s1 σ H1 _ I1 q1) fun vl s2 ⟨l, H2, I2, pl, q2⟩ => thn (hu pins s2 σ H2 _ I2 q2) fun vu s3 ⟨u, H3, I3, pu, q3⟩ => ?_)
  rw [evalPart_none]
  refine wpAny_pure ?_
  have I4 : Inv X pins σ H3 { s3 with heap := s3.heap.push { cls := .type "slice", data := .fields #[vl, vu, .none] } } := I3.kept (t' := s3.toks) fun b ob q => Heap.get?_push_of_some _ q
  obtain ⟨T, id, hT, ht, hg⟩ := hr pins { s3 with heap := s3.heap.push { cls := .type "slice", data := .fields #[vl, vu, .none] } } σ H3 x v vl vu l u s3.heap.objs.size Q I4 r1 (Heap.IsSliceOf.new ..) pl pu q3
  show wpAny (model X.prog X.w) X.A (subscriptTail e (.Slice lo hi none p2) v (.ref s3.heap.objs.size)) (EP X pins σ Q) X.xe { s3 with heap := s3.heap.push { cls := .type "slice", data := .fields #[vl, vu, .none] } }
  exact tail_any (ops := [.ref s3.heap.objs.size, v]) ht hT hg (by with_unfolding_all rfl)
def cutV (xs : List V) (lo hi : Option Int) : List V := (xs.drop (HT.sIx xs.length 0 lo)).take (HT.sIx xs.length xs.length hi - HT.sIx xs.length 0 lo)
theorem cutV_length (xs : List V) (lo hi : Option Int) : (cutV xs lo hi).length ≤ xs.length := by
  unfold cutV
  rw [List.length_take, List.length_drop]
  omega
def rSlT (K : PySem.W.Frag) : V → Option Int → Option Int → Hp → VK → Prop := fun x lo hi H Q => ∃ a xs, x = .ref a ∧ SqT K H a xs ∧
  ¬ (HT.sIx xs.length 0 lo = 0 ∧ HT.sIx xs.length xs.length hi = xs.length) ∧ ∀ p, H p = none → Q (.ref p) (upd H p (.tup (cutV xs lo hi)))
theorem sl_tup : SlR X (rSlT X.K) := by
  intro pins s σ H x v vl vu lo hi sl Q I rx hs pl pu h
  obtain ⟨a, xs, rfl, hx, hw, q⟩ := h
  cases rx
  obtain ⟨its, r, ht, hz⟩ := I.tuple hx
  have hlen : its.toArray.size = xs.length := by rw [List.size_toArray]; exact r.length.symm
  refine ⟨"tuple", _, PyProof.Rows.slot_tuple_getitem.lookup, ht.typeIs, ?_⟩
  refine HT.getItem_tuple_cut ht hs pl pu (by rw [hlen]; exact hw) ?_ (by rw [hlen]; exact hz)
  rw [hlen]
  refine ⟨.ref s.heap.objs.size, _, I.laid (t' := s.toks) (o := .tup (cutV xs lo hi)) (fun b ob q => Heap.get?_push_of_some _ q) (Nat.le_refl _) ?_, rfl, q _ (I.hok.fresh (Nat.le_refl _))⟩
  exact ⟨Nat.le_trans (cutV_length xs lo hi) hz, _, (r.drop (HT.sIx xs.length 0 lo)).take (HT.sIx xs.length xs.length hi - HT.sIx xs.length 0 lo), IsTup.new _ _⟩
def rLtT (K : PySem.W.Frag) : R2 := fun x y H Q => ∃ a b ns ms, x = .ref a ∧ y = .ref b ∧ SqT K H a (ns.map V.int) ∧ SqT K H b (ms.map V.int) ∧ Q (.bl (HT.lexLt ns ms)) H
def rCatT (K : PySem.W.Frag) : R2 := fun x y H Q => ∃ a b xs ys, x = .ref a ∧ y = .ref b ∧ SqT K H a xs ∧ SqT K H b ys ∧ xs ≠ [] ∧ xs.length + ys.length ≤ sizeLine ∧
  (ys = [] → Q (.ref a) H) ∧ (ys ≠ [] → ∀ p, H p = none → Q (.ref p) (upd H p (.tup (xs ++ ys))))
theorem Vals.nil_iff {xs : List V} {us : List Value} (r : Vals xs us) : us = [] ↔ xs = [] := by
  cases r with
  | nil => simp
  | cons _ _ => simp
theorem op_catT : OpR X (binaryOp .Add) (rCatT X.K) := by
  intro pins s σ H x y v u Q I rx ry h
  obtain ⟨a, b, xs, ys, rfl, rfl, ha, hb, hx, hz, q1, q2⟩ := h
  cases rx
  cases ry
  obtain ⟨its, r1, p1, _⟩ := I.tuple ha
  obtain ⟨its2, r2, p2, _⟩ := I.tuple hb
  refine HT.cat_tup p1 p2 (fun z => hx (r1.nil_iff.mp z)) (fun z => ⟨.ref a, H, I, rfl, q1 (r2.nil_iff.mp z)⟩) (fun z => ?_) (by rw [← r1.length, ← r2.length]; exact hz)
  refine ⟨.ref s.heap.objs.size, _, I.laid (t' := s.toks) (o := .tup (xs ++ ys)) (fun b ob q => Heap.get?_push_of_some _ q) (Nat.le_refl _) ?_, rfl, q2 (fun w => z (r2.nil_iff.mpr w)) _ (I.hok.fresh (Nat.le_refl _))⟩
  exact ⟨by rw [List.length_append]; exact hz, _, r1.append r2, IsTup.new _ _⟩
end
end L2
namespace L2
open PySem PySem.Spec PyProof.Rows
def ixN (n : Nat) (i : Int) : Option Nat := if 0 ≤ i then (if i < n then some i.toNat else none) else if -(n : Int) ≤ i then some (i + n).toNat else none
def atI {α : Type} (xs : List α) (i : Int) : Option α := (ixN xs.length i).bind fun j => xs[j]?
theorem ixN_seq {n : Nat} {i : Int} {j : Nat} (h : ixN n i = some j) : seqIndex? i n = some j ∧ j < n ∧ -(n : Int) ≤ i ∧ i < n := by
  unfold ixN at h
  by_cases h0 : 0 ≤ i
  · rw [if_pos h0] at h
    by_cases h1 : i < n
    · rw [if_pos h1] at h
      have e : i.toNat = j := Option.some.inj h
      exact ⟨by rw [seqIndex_of h0 h1, e], by omega, by omega, h1⟩
    · rw [if_neg h1] at h; cases h
  · rw [if_neg h0] at h
    by_cases h1 : -(n : Int) ≤ i
    · rw [if_pos h1] at h
      have e : (i + n).toNat = j := Option.some.inj h
      exact ⟨by rw [seqIndex_neg (by omega) h1, e], by omega, h1, by omega⟩
    · rw [if_neg h1] at h; cases h
theorem atI_get {α : Type} {xs : List α} {i : Int} {v : α} (h : atI xs i = some v) : ∃ j, seqIndex? i xs.length = some j ∧ xs[j]? = some v ∧ j < xs.length ∧ -(xs.length : Int) ≤ i ∧ i < xs.length := by
  unfold atI at h
  cases e : ixN xs.length i with
  | none => rw [e] at h; cases h
  | some j =>
    rw [e] at h
    obtain ⟨h1, h2, h3, h4⟩ := ixN_seq e
    exact ⟨j, h1, h, h2, h3, h4⟩
theorem atI_nat {α : Type} {xs : List α} {j : Nat} {v : α} (h : xs[j]? = some v) : atI xs (j : Int) = some v := by
  have hj : j < xs.length := (List.getElem?_eq_some_iff.mp h).1
  have e : ixN xs.length (j : Int) = some j := by
    unfold ixN
    rw [if_pos (by omega), if_pos (by omega)]; simp
  unfold atI; rw [e]; exact h
theorem atI_last {α : Type} (xs : List α) (v : α) : atI (xs ++ [v]) (-1) = some v := by
  have hl : (xs ++ [v]).length = xs.length + 1 := by simp
  have e : ixN (xs ++ [v]).length (-1) = some xs.length := by
    unfold ixN
    rw [hl, if_neg (by decide), if_pos (by omega)]
    congr 1
    omega
  unfold atI
  rw [e]
  show (xs ++ [v])[xs.length]? = some v
  simp
def PlainIx (b : Expr) : Prop := ∀ o i, subscripted b false o i = operate [o, i] (getItem o i)
def IxR (X : Cx) (r : R2) : Prop :=
  ∀ (value slice : Expr) (pins : List (Addr × Obj)) (s : Shared) (σ : St) (H : Hp) (x y : V) (v u : Value) (Q : VK), Inv X pins σ H s → RelV x v → RelV y u → r x y H Q →
    subscripted slice false v u = operate [v, u] (getItem v u) → wpAny (model X.prog X.w) X.A (subscriptTail value slice v u) (EP X pins σ Q) X.xe s
def MtR (X : Cx) (id : String) (r : V → List V → Hp → VK → Prop) : Prop :=
  ∀ (pins : List (Addr × Obj)) (s : Shared) (σ : St) (H : Hp) (x : V) (xs : List V) (v : Value) (us : List Value) (Q : VK), Inv X pins σ H s → RelV x v → Vals xs us → r x xs H Q →
    wpAny (model X.prog X.w) X.A (call (.builtin id) (v :: us)) (EP X pins σ Q) X.xe s
section
variable {X : Cx} {a b : Expr} {ta tb : TE} {pos : Pos}
theorem pe_ix {r : R2} (hr : IxR X r) (ha : PE X a ta) (hb : PE X b tb) (hs : PlainIx b) : PE X (.Subscript a b pos) (tOp r ta tb) := by
  intro pins s σ H Q I h
  exact Subscript_ (binT ha hb I h fun v u s2 x y H2 I2 rx ry q => hr a b pins s2 σ H2 x y v u Q I2 rx ry q (hs _ _))
def rIxL (K : PySem.W.Frag) : R2 := fun x y H Q => ∃ p xs i v, x = .ref p ∧ y = .int i ∧ SqL K H p xs ∧ atI xs i = some v ∧ Q v H
def rIxT (K : PySem.W.Frag) : R2 := fun x y H Q => ∃ p xs i v, x = .ref p ∧ y = .int i ∧ SqT K H p xs ∧ atI xs i = some v ∧ Q v H
def rIxS : R2 := fun x y H Q => ∃ z i c, x = .str z ∧ y = .int i ∧ z.length ≤ sizeLine ∧ atI z.cps.toList i = some c ∧ Q (.str ⟨#[c]⟩) H
theorem ix_list : IxR X (rIxL X.K) := by
  intro value slice pins s σ H x y v u Q I rx ry h hs
  obtain ⟨p, xs, i, z, rfl, rfl, hq, he, q⟩ := h
  cases rx
  obtain ⟨t, rfl⟩ := ry
  obtain ⟨its, r, pl, hz⟩ := I.list hq
  obtain ⟨j, h1, h2, h3, h4, h5⟩ := atI_get he
  obtain ⟨w, ew, rw'⟩ := r.get h2
  have hl := r.length
  have hn := line63
  have fin : EP X pins σ Q w s := ⟨z, H, I, rw', q⟩
  by_cases h0 : 0 ≤ i
  · have hj : i.toNat = j := by
      rw [seqIndex_of h0 h5] at h1
      exact Option.some.inj h1
    exact item_listR pl.isList h0 (by omega) (by rw [hj]; simpa using ew) fin hs
  · have hj : (i + (its.toArray.size : Int)).toNat = j := by
      rw [seqIndex_neg (by omega) h4] at h1
      rw [List.size_toArray, ← hl]
      exact Option.some.inj h1
    exact subscriptTail_builtinR (x := w) pl.isList.typeIs slot_list_getitem.lookup
      (wpAny_getItem_list_neg (Q := fun r s' => r = w ∧ EP X pins σ Q r s') pl.isList (by omega) (by rw [List.size_toArray] <;> omega) (by omega) (by rw [hj]; simpa using ew) ⟨rfl, fin⟩) hs
theorem ix_tup : IxR X (rIxT X.K) := by
  intro value slice pins s σ H x y v u Q I rx ry h hs
  obtain ⟨p, xs, i, z, rfl, rfl, hq, he, q⟩ := h
  cases rx
  obtain ⟨t, rfl⟩ := ry
  obtain ⟨its, r, pl, hz⟩ := I.tuple hq
  obtain ⟨j, h1, h2, h3, h4, h5⟩ := atI_get he
  obtain ⟨w, ew, rw'⟩ := r.get h2
  have hl := r.length
  have hn := line63
  have fin : EP X pins σ Q w s := ⟨z, H, I, rw', q⟩
  exact subscriptTail_builtinR (x := w) pl.typeIs slot_tuple_getitem.lookup
    (getItem_tuple (j := j) (Q := fun r s' => r = w ∧ EP X pins σ Q r s') pl (by omega) (by omega) (by rw [List.size_toArray, ← hl]; exact h1) (by simpa using ew) ⟨rfl, fin⟩) hs
theorem ix_str : IxR X rIxS := by
  intro value slice pins s σ H x y v u Q I rx ry h hs
  obtain ⟨z, i, c, rfl, rfl, hz, he, q⟩ := h
  obtain ⟨t, rfl⟩ := rx
  obtain ⟨t', rfl⟩ := ry
  obtain ⟨j, h1, h2, h3, h4, h5⟩ := atI_get he
  have hl : z.cps.toList.length = z.length := by simp [Str.length]
  rw [hl] at h1 h4 h5
  have hn := line63
  exact tail_any (typeIs_str s z t) slot_str_getitem.lookup (getItem_str (c := c) (by
    have e1 : decide (i < -(2 ^ 63 : Int)) = false := decide_eq_false (by omega)
    have e2 : decide (i ≥ 2 ^ 63) = false := decide_eq_false (by omega)
    rw [e1, e2, Bool.or_false]) (by rw [h1]; simpa using h2) ⟨.str ⟨#[c]⟩, H, I.tok _, ⟨_, rfl⟩, q⟩) hs
def rIx (K : PySem.W.Frag) : R2 := fun x y H Q => rIxL K x y H Q ∨ rIxT K x y H Q ∨ rIxS x y H Q
theorem mapSeq_set (its : List Value) (n j : Nat) (u : Value) : Obj.mapSeq (·.setIfInBounds j u) { cls := .type "list", data := .seq its.toArray n } = { cls := .type "list", data := .seq (its.set j u).toArray n } := by
  simp [Obj.mapSeq]
theorem Inv.lst {pins : List (Addr × Obj)} {σ : St} {H : Hp} {s : Shared} {p : Addr} {xs : List V} (I : Inv X pins σ H s) (h : H p = some (.lst xs)) :
    ∃ (its : List Value) (n : Nat), Vals xs its ∧ s.heap.get? p = some { cls := .type "list", data := .seq its.toArray n } ∧ xs.length ≤ sizeLine := by
  obtain ⟨z, its, n, r, e⟩ := I.hok p _ h
  exact ⟨its, n, r, e, z⟩
theorem Inv.lstUpd {pins : List (Addr × Obj)} {σ : St} {H : Hp} {s : Shared} {p : Addr} {xs ys : List V} {its its' : List Value} {n n' : Nat} {f : Obj → Obj} (I : Inv X pins σ H s) (h : H p = some (.lst xs))
    (ho : s.heap.get? p = some { cls := .type "list", data := .seq its.toArray n }) (hf : f { cls := .type "list", data := .seq its.toArray n } = { cls := .type "list", data := .seq its'.toArray n' }) (r : Vals ys its') (hz : ys.length ≤ sizeLine) (t : Nat) :
    Inv X pins σ (upd H p (.lst ys)) { s with heap := s.heap.update p f, toks := t } := by
  have e : (s.heap.update p f).get? p = some { cls := .type "list", data := .seq its'.toArray n' } := by
    rw [Heap.get?_update_self f ho (by rw [hf] <;> rfl), hf]
  refine I.write (x := p) (e := p) (by rw [h]; trivial) (.inl rfl) (fun b u hb q => (Heap.get?_update_other _ _ (Ne.symm hb)).trans q) ⟨_, e⟩ ?_
  exact ⟨hz, its', n', r, e⟩
def rSetL : V → V → V → Hp → (Hp → Prop) → Prop := fun o i v H Q => ∃ p xs k j, o = .ref p ∧ i = .int k ∧ H p = some (.lst xs) ∧ ixN xs.length k = some j ∧ Q (upd H p (.lst (xs.set j v)))
theorem set_list : PSet X rSetL := by
  intro pins s σ H o i v ov iv u Q I ro ri rv h
  obtain ⟨p, xs, k, j, rfl, rfl, hp, hj, q⟩ := h
  cases ro
  obtain ⟨t, rfl⟩ := ri
  obtain ⟨its, n, r, ho, hz⟩ := I.lst hp
  obtain ⟨h1, h2, h3, h4⟩ := ixN_seq hj
  have hl := r.length
  have hn := line63
  have I' : Inv X pins σ (upd H p (.lst (xs.set j v))) { s with heap := s.heap.update p (Obj.mapSeq (·.setIfInBounds j u)) } :=
    I.lstUpd hp ho (mapSeq_set its n j u) (r.set rv j) (by rw [List.length_set]; exact hz) s.toks
  by_cases h0 : 0 ≤ k
  · have hk : k.toNat = j := by
      rw [seqIndex_of h0 h4] at h1
      exact Option.some.inj h1
    exact PySem.W.ki_setAt ho h0 (by omega) (by rw [List.size_toArray, ← hl]; exact h4) (by rw [hk]; exact ⟨_, I', q⟩)
  · have hk : (k + (its.toArray.size : Int)).toNat = j := by
      rw [seqIndex_neg (by omega) h3] at h1
      rw [List.size_toArray, ← hl]
      exact Option.some.inj h1
    exact PySem.W.ki_setBack ho (by omega) (by rw [List.size_toArray, ← hl]; exact h3) (by omega) (by rw [hk]; exact ⟨_, I', q⟩)
def rSlL (K : PySem.W.Frag) : V → Option Int → Option Int → Hp → VK → Prop := fun x lo hi H Q => ∃ a xs, x = .ref a ∧ SqL K H a xs ∧ ∀ p, H p = none → Q (.ref p) (upd H p (.lst (cutV xs lo hi)))
def flatV : V → Bool
  | .non => true
  | .bl _ => true
  | .int _ => true
  | .str _ => true
  | _ => false
def eqV : V → V → Bool
  | .non, .non => true
  | .bl a, .bl b => a == b
  | .bl a, .int b => (if a then 1 else 0) == b
  | .int a, .bl b => a == (if b then 1 else 0)
  | .int a, .int b => a == b
  | .str a, .str b => a == b
  | _, _ => false
def eqU (x : V) (u : Value) : Bool := match u with
  | .none => eqV .non x
  | .bool b => eqV (.bl b) x
  | .int i _ => eqV (.int i) x
  | .str z _ => eqV (.str z) x
  | _ => false
def inV (x : V) (xs : List V) : Bool := xs.any fun y => eqV y x
def rIn (K : PySem.W.Frag) (neg : Bool) : R2 := fun x y H Q => ∃ p xs, y = .ref p ∧ (SqL K H p xs ∨ SqT K H p xs) ∧ flatV x = true ∧ xs.all flatV = true ∧ Q (.bl (if neg then !inV x xs else inV x xs)) H
theorem call_len_seq : CallR X (.builtin "len") (fun xs H Q => ∃ p ys, xs = [.ref p] ∧ (SqL X.K H p ys ∨ SqT X.K H p ys) ∧ Q (.int ys.length) H) := by
  intro pins s σ H xs us Q I r h
  obtain ⟨p, ys, rfl, hq, q⟩ := h
  obtain ⟨u, rfl, rx⟩ := vals1 r
  cases rx
  have hn := line63
  rcases hq with hq | hq
  · obtain ⟨its, r', pl, hz⟩ := I.list hq
    have hlen := r'.length
    exact Calls.call_len_list pl.isList (by simp only [List.size_toArray] <;> omega) ⟨.int ys.length, H, I.tok _, ⟨s.toks + 1, by rw [List.size_toArray, hlen]⟩, q⟩
  · obtain ⟨its, r', pl, hz⟩ := I.tuple hq
    have hlen := r'.length
    exact len_tuple pl (by simp only [List.size_toArray] <;> omega) ⟨.int ys.length, H, I.tok _, ⟨s.toks + 1, by rw [List.size_toArray, hlen]⟩, q⟩
theorem call_len_str : CallR X (.builtin "len") (fun xs H Q => ∃ z, xs = [.str z] ∧ z.length ≤ sizeLine ∧ Q (.int z.length) H) := by
  intro pins s σ H xs us Q I r h
  obtain ⟨z, rfl, hz, q⟩ := h
  obtain ⟨u, rfl, t, rfl⟩ := vals1 r
  have hn := line63
  exact len_str (by omega) ⟨.int z.length, H, I.tok _, ⟨_, rfl⟩, q⟩
theorem call_tuple_of : CallR X (.type "tuple") (fun xs H Q => ∃ p ys, xs = [.ref p] ∧ ((SqL X.K H p ys ∧ ∀ l, H l = none → Q (.ref l) (upd H l (.tup ys))) ∨ (SqT X.K H p ys ∧ Q (.ref p) H))) := by
  intro pins s σ H xs us Q I r h
  obtain ⟨p, ys, rfl, h⟩ := h
  obtain ⟨u, rfl, rx⟩ := vals1 r
  cases rx
  rcases h with ⟨hq, q⟩ | ⟨hq, q⟩
  · obtain ⟨its, r', pl, hz⟩ := I.list hq
    have hlen := r'.length
    refine call_tuple_list pl.isList (fun h' kp => ?_) (by simp only [List.size_toArray] <;> omega)
    have I1 : Inv X pins σ H { s with heap := h' } := I.kept (t' := s.toks) kp
    have I2 : Inv X pins σ (upd H h'.objs.size (.tup ys)) { s with heap := h'.push { cls := .type "tuple", data := .seq its.toArray } } :=
      I1.laid (t' := s.toks) (fun b o e => Heap.get?_push_of_some _ e) (Nat.le_refl _) (show ObjOk X.prog X.w _ _ _ (.tup ys) from ⟨hz, its, r', IsTup.new _ _⟩)
    exact ⟨.ref h'.objs.size, _, I2, rfl, q _ (I1.hok.fresh (Nat.le_refl _))⟩
  · obtain ⟨its, r', pl, hz⟩ := I.tuple hq
    exact call_tuple_same pl ⟨.ref p, H, I, rfl, q⟩
def tyV (K : PySem.W.Frag) (T : String) (x : V) (H : Hp) : Prop := match x with
  | .str _ => T = "str"
  | .int _ => T = "int"
  | .ref p => (T = "list" ∧ ∃ xs, SqL K H p xs) ∨ (T = "tuple" ∧ ∃ o, K.lookup p = some o ∧ o.cls = .type "tuple" ∧ o.dict = none) ∨
      (T = "dict" ∧ ((∃ kvs, H p = some (.dK kvs)) ∨ ∃ kvs, H p = some (.dT kvs))) ∨ (T = "set" ∧ ∃ S n, H p = some (.set S n))
  | _ => False
theorem tyV_is {pins : List (Addr × Obj)} {σ : St} {H : Hp} {s : Shared} {T : String} {x : V} {v : Value} (I : Inv X pins σ H s) (r : RelV x v) (ty : tyV X.K T x H) :
    s.TypeIs v T ∧ ∀ a, v = .ref a → ∃ ob, s.heap.get? a = some ob ∧ ob.dict = none := by
  cases x with
  | str z =>
    obtain ⟨t, rfl⟩ := r
    cases (show T = "str" from ty)
    exact ⟨typeIs_str s z t, fun _ e => nomatch e⟩
  | int i =>
    obtain ⟨t, rfl⟩ := r
    cases (show T = "int" from ty)
    exact ⟨typeIs_int s i t, fun _ e => nomatch e⟩
  | ref p =>
    cases r
    rcases ty with ⟨rfl, xs, hq⟩ | ⟨rfl, o, hk, hc, hd⟩ | ⟨rfl, hk⟩ | ⟨rfl, S, n, hk⟩
    · obtain ⟨its, _, pl, _⟩ := I.list hq
      refine ⟨pl.isList.typeIs, fun a e => ?_⟩
      cases e
      obtain ⟨o, n, e, c, hd, _⟩ := pl
      exact ⟨o, e, hd⟩
    · refine ⟨⟨o, I.kIn p o hk, hc⟩, fun a e => ?_⟩
      cases e
      exact ⟨o, I.kIn _ o hk, hd⟩
    · have z : ∃ o, s.heap.get? p = some o ∧ o.ExactDict := by
        rcases hk with ⟨kvs, hk⟩ | ⟨kvs, hk⟩
        · obtain ⟨_, _, _, _, o, _, _, e, ex, _⟩ := I.hok p _ hk
          exact ⟨o, e, ex⟩
        · obtain ⟨_, _, _, _, o, _, _, e, ex, _⟩ := I.hok p _ hk
          exact ⟨o, e, ex⟩
      obtain ⟨o, e, ex⟩ := z
      refine ⟨⟨o, e, ex.1⟩, fun a e2 => ?_⟩
      cases e2
      exact ⟨o, e, ex.2.1⟩
    · obtain ⟨o, _, _, _, e, ex, _⟩ := I.hok p _ hk
      refine ⟨⟨o, e, ex.1⟩, fun a e2 => ?_⟩
      cases e2
      exact ⟨o, e, ex.2.1⟩
  | _ => exact False.elim ty
def tBM0 (K : PySem.W.Frag) (T : String) (r : V → List V → Hp → VK → Prop) (to : TE) : TE := fun σ H Q => to σ H fun x H1 => tyV K T x H1 ∧ r x [] H1 Q
def tBM (K : PySem.W.Frag) (T : String) (r : V → List V → Hp → VK → Prop) (to : TE) (t : TA) : TE := fun σ H Q => to σ H fun x H1 => tyV K T x H1 ∧ t σ H1 fun xs H2 => r x xs H2 Q
variable {o e : Expr} {es : List Expr} {to : TE} {t : TA} {name : Str} {apos cpos : Pos} {T id : String} {r : V → List V → Hp → VK → Prop}
theorem pe_bm (pa : PlainAttrs T) (slot : Slot T name id) (hty : typeOf (.builtin id) = pure (.type "method_descriptor")) (hm : MtR X id r) (ho : PE X o to) (ha : PA X (e :: es) t)
    (hbase : attributeBase o name X.env (eval o X.env) = eval o X.env := by rfl)
    (hfew : ((backTo cpos (starEach (e :: es) X.env)).all (fun x => !x.1) && (backToKw cpos (keywordEach [] X.env)).all (fun x => x.1.isSome)
      && decide ((e :: es).length + ([] : List Keyword).length + (if ([] : List Keyword).isEmpty then 0 else 1) < 30)) = true := by rfl)
    (hline : (apos.endLine == cpos.line) = true := by rfl) (hs : starEach (e :: es) X.env = (false, eval e X.env) :: starEach es X.env := by rfl) (hplain : (backTo cpos (starEach es X.env)).any (·.1) = false := by rfl) :
    PE X (.Call (.Attribute o name apos) (e :: es) [] cpos) (tBM X.K T r to t) := by
  intro pins s σ H Q I h
  refine wpAny_Call_method_late hbase hfew hline rfl (thn (ho pins s σ H _ I h) fun v s1 ⟨x, H1, I1, r1, ty, q1⟩ => ?_)
  obtain ⟨h1, h2⟩ := tyV_is I1 r1 ty
  refine ⟨T, id, pa, slot, hty, h1, h2, ?_⟩
  have hA := ha cpos pins s1 σ H1 _ I1 q1
  rw [hs] at hA ⊢
  refine Calls.callWith_builtin (by show (false || (backTo cpos (starEach es X.env)).any (·.1)) = false; rw [hplain] <;> rfl) (Calls.evalArgs_plain ?_)
  exact thn hA fun us s2 ⟨vs, H2, I2, r2, q2⟩ => hm pins s2 σ H2 x vs v us Q I2 r1 r2 q2
end
end L2
namespace L2
open PySem PySem.Spec PyProof.Rows
def MtM (X : Cx) (id : String) (r : V → List V → Hp → VK → Prop) : Prop :=
  ∀ (pins : List (Addr × Obj)) (s : Shared) (σ : St) (H : Hp) (x : V) (xs : List V) (v : Value) (us : List Value) (Q : VK), Inv X pins σ H s → RelV x v → Vals xs us → r x xs H Q →
    wpAny (model X.prog X.w) X.A (call (.builtin id) (v :: us)) (EP X pins σ Q) X.xe s
theorem Vals.one : ∀ {x : V} {us : List Value}, Vals [x] us → ∃ u, us = [u] ∧ RelV x u
  | _, _, .cons r .nil => ⟨_, rfl, r⟩
theorem Vals.two : ∀ {x y : V} {us : List Value}, Vals [x, y] us → ∃ u v, us = [u, v] ∧ RelV x u ∧ RelV y v
  | _, _, _, .cons r (.cons q .nil) => ⟨_, _, rfl, r, q⟩
theorem Vals.zero : ∀ {us : List Value}, Vals [] us → us = []
  | _, .nil => rfl
theorem Vals.dropLast {xs : List V} {us : List Value} (h : Vals xs us) : Vals xs.dropLast us.dropLast := by
  induction h with
  | nil => exact .nil
  | cons r t ih =>
    cases t with
    | nil => exact .nil
    | cons q t' => exact .cons r ih
theorem Vals.eraseIdx : ∀ {xs : List V} {us : List Value} (i : Nat), Vals xs us → Vals (xs.eraseIdx i) (us.eraseIdx i)
  | _, _, _, .nil => .nil
  | _, _, 0, .cons _ t => t
  | _, _, i + 1, .cons r t => .cons r (Vals.eraseIdx i t)
theorem Vals.reverse {xs : List V} {us : List Value} (h : Vals xs us) : Vals xs.reverse us.reverse := by
  induction h with
  | nil => exact .nil
  | cons r t ih => rw [List.reverse_cons, List.reverse_cons]; exact Vals.append ih (.cons r .nil)
section
variable {X : Cx} {pins : List (Addr × Obj)} {σ : St} {H : Hp} {s : Shared} {l b : Addr} {xs ys zs : List V}
theorem Inv.lset {its its' : List Value} {n : Nat} {f : Array Value → Array Value} {t' : Nat} (I : Inv X pins σ H s) (hH : H l = some (.lst xs))
    (e : s.heap.get? l = some { cls := .type "list", data := .seq its.toArray n }) (hf : f its.toArray = its'.toArray) (hv : Vals ys its') (hz : ys.length ≤ sizeLine) :
    Inv X pins σ (upd H l (.lst ys)) { s with heap := s.heap.update l (Obj.mapSeq f), toks := t' } := by
  have q := PySem.IsL.update e f
  rw [hf] at q
  refine I.write (x := l) (e := l) (by rw [hH]; exact trivial) (.inl rfl) (fun b' u hb hu => (Heap.get?_update_other s.heap (Obj.mapSeq f) (Ne.symm hb)).trans hu) ⟨_, q⟩ ?_
  exact ⟨hz, its', _, hv, q⟩
theorem Inv.lnew {its : List Value} {t' : Nat} (I : Inv X pins σ H s) (hv : Vals ys its) (hz : ys.length ≤ sizeLine) :
    Inv X pins σ (upd H s.heap.objs.size (.lst ys)) { s with heap := s.heap.push { cls := .type "list", data := .seq its.toArray }, toks := t' } :=
  I.laid (fun _ _ q => Heap.get?_push_of_some _ q) (Nat.le_refl _) ⟨hz, its, 0, hv, Heap.get?_push_size _ rfl⟩
theorem Inv.fresh (I : Inv X pins σ H s) : H s.heap.objs.size = none := I.hok.fresh (Nat.le_refl _)
theorem Inv.lstM (I : Inv X pins σ H s) (hH : H l = some (.lst xs)) : xs.length ≤ sizeLine ∧ ∃ (its : List Value) (n : Nat), Vals xs its ∧ xs.length = its.length ∧ s.heap.get? l = some { cls := .type "list", data := .seq its.toArray n } := by
  obtain ⟨z, its, n, r, e⟩ := I.hok l _ hH
  exact ⟨z, its, n, r, r.length, e⟩
theorem notLongL {n : Nat} (h : n ≤ sizeLine) : Builtin.List.listTooLong n = false := by
  unfold Builtin.List.listTooLong
  exact decide_eq_false (by omega)
end
section
variable {X : Cx}
def rAppend : V → List V → Hp → VK → Prop := fun x vs H Q => ∃ l xs y, x = .ref l ∧ vs = [y] ∧ H l = some (.lst xs) ∧ xs.length < sizeLine ∧ Q .non (upd H l (.lst (xs ++ [y])))
theorem mt_append : MtM X "list.append" rAppend := by
  intro pins s σ H x vs v us Q I rx rv h
  obtain ⟨l, xs, y, rfl, rfl, hH, hz, q⟩ := h
  cases rx
  obtain ⟨u, rfl, ru⟩ := rv.one
  obtain ⟨z, its, n, r, hl, e⟩ := I.lstM hH
  refine call_meets F.slot_list_append ⟨_, e, rfl⟩ F.entry_list_append (F.args_list_append_2 _ _) (PySem.list_append l its.toArray n u (by rw [List.size_toArray]; omega)) ⟨e, ?_⟩
  refine ⟨.non, _, I.lset (its' := its ++ [u]) hH e (by simp) (r.append (.cons ru .nil)) ?_, rfl, q⟩
  rw [List.length_append, List.length_singleton]
  omega
def rExtend : V → List V → Hp → VK → Prop := fun x vs H Q => ∃ l b xs zs, x = .ref l ∧ vs = [.ref b] ∧ H l = some (.lst xs) ∧ H b = some (.lst zs) ∧ xs.length + zs.length ≤ sizeLine ∧ Q .non (upd H l (.lst (xs ++ zs)))
def rPop : V → List V → Hp → VK → Prop := fun x vs H Q => ∃ l xs y, x = .ref l ∧ vs = [] ∧ H l = some (.lst xs) ∧ xs[xs.length - 1]? = some y ∧ Q y (upd H l (.lst xs.dropLast))
def rPopAt : V → List V → Hp → VK → Prop := fun x vs H Q => ∃ l xs i k y, x = .ref l ∧ vs = [.int i] ∧ H l = some (.lst xs) ∧ -(2 ^ 63) ≤ i ∧ i < 2 ^ 63 ∧ seqIndex? i xs.length = some k ∧ xs[k]? = some y ∧ Q y (upd H l (.lst (xs.eraseIdx k)))
def rReverse : V → List V → Hp → VK → Prop := fun x vs H Q => ∃ l xs, x = .ref l ∧ vs = [] ∧ H l = some (.lst xs) ∧ Q .non (upd H l (.lst xs.reverse))
def rClear : V → List V → Hp → VK → Prop := fun x vs H Q => ∃ l xs, x = .ref l ∧ vs = [] ∧ H l = some (.lst xs) ∧ Q .non (upd H l (.lst []))
def rCat : R2 := fun x y H Q => ∃ l b xs zs, x = .ref l ∧ y = .ref b ∧ H l = some (.lst xs) ∧ H b = some (.lst zs) ∧ xs.length + zs.length ≤ sizeLine ∧ ∀ p, H p = none → Q (.ref p) (upd H p (.lst (xs ++ zs)))
theorem op_cat : OpR X (binaryOp .Add) rCat := by
  intro pins s σ H x y v u Q I rx ry h
  obtain ⟨l, b, xs, zs, rfl, rfl, hH, hB, hz, q⟩ := h
  cases rx
  cases ry
  obtain ⟨z, its, n, r, hl, e⟩ := I.lstM hH
  obtain ⟨z2, its2, n2, r2, hl2, e2⟩ := I.lstM hB
  refine PySem.P.add_list e e2 ?_ (by rw [List.size_toArray, List.size_toArray]; omega)
  have ea : its.toArray ++ its2.toArray = (its ++ its2).toArray := by simp
  rw [ea]
  exact ⟨.ref _, _, I.lnew (t' := s.toks) (r.append r2) (by rw [List.length_append]; omega), rfl, q _ I.fresh⟩
def rRep : R2 := fun x y H Q => ∃ l k xs, x = .ref l ∧ y = .int k ∧ H l = some (.lst xs) ∧ -(2 ^ 63) ≤ k ∧ k < 2 ^ 63 ∧ xs.length * k.toNat ≤ sizeLine ∧
  ∀ p, H p = none → Q (.ref p) (upd H p (.lst (List.replicate k.toNat xs).flatten))
end
section
variable {prog : Program} {w : World} {A : Around} {E : Value → Shared → Prop} {s : Shared}
set_option maxRecDepth 100000 in
end
section
variable {X : Cx}
end
end L2
namespace Att
open PySem PySem.W PySem.Calls PyProof.Rows
theorem ints_of_wellAll {P : Params} {h : Heap} : ∀ (ns : List Int) (vs : List Value), WellAll P h vs (ns.map WData.int) → IntsAre vs ns := by
  intro ns
  induction ns with
  | nil =>
    intro vs w
    rw [List.map_nil] at w
    cases w
    exact .nil
  | cons n ns ih =>
    intro vs w
    rw [List.map_cons] at w
    cases w with
    | cons a b =>
      cases a
      exact .cons _ _ (ih _ b)
theorem script_of {l : OpenLaw} {n : Nat} (hn : l.most = some n) {P : Params} {h : Heap} {args : List WData} {vals : List Value}
    (hpre : l.row.toRowW.claim.pre args = true) (hwl : WellAll P h vals args) :
    ∃ a vs ns, vals = [Value.ref a] ∧ args = [WData.list (ns.map WData.int)] ∧ h.get? a = some { cls := .type "list", data := .seq vs.toArray } ∧ IntsAre vs ns ∧ ns.length ≤ n := by
  have hsh : WShape.hasAll [] args [.list .int] = true := (pre_splitW hpre).1
  have hc : l.pre.holds [] { args := args } = true := (pre_splitW hpre).2
  obtain ⟨d, r, rfl, h1, h2⟩ := hasAllW_cons hsh
  obtain rfl := hasAllW_nil h2
  obtain ⟨xs, rfl, h3⟩ := hasW_list h1
  obtain ⟨ns, rfl⟩ := items_int h3
  have hlen : ns.length ≤ n := by
    unfold OpenLaw.pre at hc
    have h4 : (WTm.not (.lt (.lit (.int (n : Int))) (.len (.arg 0)))).holds [] { args := [.list (ns.map .int)] } = true := by
      have h4 := (holds_andW hc).1
      rw [hn] at h4
      exact h4
    have h5 := condW_of h4 (w_not (w_lt w_lit (w_len_list (w_arg rfl))))
    rw [List.length_map] at h5
    refine Nat.le_of_not_lt fun q => ?_
    have q' : (n : Int) < ((ns.length : Nat) : Int) := by omega
    first
      | (rw [decide_eq_true q'] at h5; exact absurd h5 (by decide))
      | (simp at h5; omega)
  cases hwl with
  | cons w1 w2 =>
    cases w2
    cases w1 with
    | list ho hall => exact ⟨_, _, ns, rfl, rfl, ho, ints_of_wellAll ns _ hall, hlen⟩
theorem post_true (l : OpenLaw) (args : List WData) : l.row.toRowW.claim.post args (.bool true) args = true :=
  postW_of (r := l.row.toRowW) (X := (true == true))
    (show WShape.has [] (.bool true) .bool = true by first | rfl | decide | simp [WShape.has, WShape.arms, WShape.armsAll])
    (show (WTm.eq .res (.lit (.bool true))).value [] { args := args, res := some (.bool true), after := args } = some (.bool (true == true)) from w_eq_bool (w_res rfl) w_lit) rfl
theorem attach_call {l : OpenLaw} {n : Nat} {q : Program} {loose : List Str} {XP : (Str → Option Value) → Heap → Prop} {YP : World → Heap → Prop} {d : DefRec}
    (hn : l.most = some n) (hdf : d.params.defaults = [])
    (call : ∀ (w : World) (s₀ s₁ : Shared) (mg mb : Str → Option Value) (fa : Addr) (o : Obj) (pm cd doc : Value) (a : Addr) (vs : List Value) (ns : List Int),
      Ground q loose [] XP w s₀ mg mb s₁.heap → YP w s₁.heap →
      s₁.heap.get? fa = some o → o.data = .func (docDef d.name d.params d.body d.scope pm cd doc) → s₁.heap.CodeRec cd d.name → mg d.name = some (.ref fa) →
      s₁.heap.get? a = some { cls := .type "list", data := .seq vs.toArray } → IntsAre vs ns → ns.length ≤ n → s₁.gens = #[] →
      codeAny (model l.prog w) callerA (.call (.ref fa) ⟨[.ref a], []⟩) (fun r s' => r = .ok (.ret (.bool true)) ∧ OldK s₁.heap s'.heap ∧ s'.os = s₁.os ∧ AllBare s'.gens) s₁) :
    WalkO q loose XP YP l.row.toRowW d [] (fun f vs => PySem.call f vs) := by
  intro w s₀ s₁ mg mb G Y fa o pm cd doc dV kV ho hd hcd hD hmg hg args vals as hpre hlay hrd hwl hlo
  obtain rfl : dV = .none := Dflts.none hD hdf
  obtain rfl : kV = .none := Dflts.noKw hD
  obtain ⟨a, vs, ns, rfl, rfl, hobj, hints, hlen⟩ := script_of hn hpre hwl
  refine enter_call (codeAny_mono (call w s₀ s₁ mg mb fa o pm cd doc a vs ns G Y ho (fd_plain hd) hcd hmg hobj hints hlen hg) fun r s' hq => ?_)
  obtain ⟨rfl, h2, h3, h4⟩ := hq
  exact ⟨.inl ⟨.bool true, .bool true, [], rfl, fun _ => rfl, .bool true, post_true l _, fun _ => ⟨List.Pairwise.nil, fun _ hm => (nomatch hm)⟩⟩, h2, h3, h4⟩
section
variable {prog : Program} {w : World} {A : Around} {E : Value → Shared → Prop} {s : Shared} {K : Frag}
def noObjs (h : Heap) : Heap := { h with objs := #[] }
def ledger (h : Heap) (L d : Addr) : List (Addr × Obj) := (List.range h.objs.size).filterMap fun a => if a = L ∨ a = d then none else (h.get? a).map fun o => (a, o)
end
end Att
namespace L2
open PySem PySem.Spec PyProof.Rows
theorem vals_ints : ∀ {vs : List Value} {ns : List Int}, IntsAre vs ns → Vals (ns.map V.int) vs
  | _, _, .nil => .nil
  | _, _, .cons n t h => .cons ⟨t, rfl⟩ (vals_ints h)
def Only (H : Hp) : Prop := ∀ b, H b = none ∨ ∃ o xs, H b = some (.frz o (.lst xs))
theorem law_call {P : Program} {w : World} {K : PySem.W.Frag} {mg mb : Str → Option Value} {CX : CXT} {k : Nat} {fa a : Addr} {fd : FuncData} {x : Str} {sp : Sp} {s₁ : Shared} {vs : List Value} {ns : List Int}
    (KX : K.In s₁.heap) (hns : s₁.heap.Ns mainGlobals mg) (hb : s₁.heap.Ns builtinsNs mb) (hbb : ∀ x : Str, x ≠ "__name__" → mb x = bootBuiltins x) (hlim : s₁.heap.NoLimit) (hg : s₁.gens = #[])
    (ha : s₁.heap.get? a = some { cls := .type "list", data := .seq vs.toArray }) (hi : IntsAre vs ns) (hl : ns.length ≤ sizeLine) (hr : Room k callerA)
    (F : ∀ base : Heap, K.In base → base.Ns mainGlobals mg → FnOk P w K mg base CX k fa fd [x] sp) (hbind : ∀ (s : Shared) (u : Value), BindsTo s fd ⟨[u], []⟩ [(x, u)])
    (hsp : ∀ H : Hp, Only H → SqL K H a (ns.map V.int) → sp [.ref a] H (fun v _ => v = .bl true) fun _ _ _ => False)
    (hCX : ∀ H e s', CX [] H s₁ (fun _ _ _ => False) e s' → False) :
    codeAny (model P w) callerA (.call (.ref fa) ⟨[.ref a], []⟩) (fun r s' => r = .ok (.ret (.bool true)) ∧ OldK s₁.heap s'.heap ∧ s'.os = s₁.os ∧ AllBare s'.gens) s₁ := by
  have rv := vals_ints hi
  have lenV := hi.length
  have core : ∀ H : Hp, Only H → SqL K H a (ns.map V.int) → HOk P w H s₁.heap → (∀ b, H b ≠ none → b = a) → (H a ≠ none → K.lookup a = none) →
      codeAny (model P w) callerA (.call (.ref fa) ⟨[.ref a], []⟩) (fun r s' => r = .ok (.ret (.bool true)) ∧ OldK s₁.heap s'.heap ∧ s'.os = s₁.os ∧ AllBare s'.gens) s₁ := by
    intro H hO hS hok hA hK
    have base_of : ∀ {b : Addr} {o : Obj}, s₁.heap.get? b = some o → H b = none → (hidT s₁.heap H).get? b = some o := fun e n => hidT_get e n
    have noA : ∀ {b : Addr} {o : Obj} {es : Array DictEntry} {ep : Nat}, s₁.heap.get? b = some o → o.data = .dict es ep → H b = none := fun {b o es ep} e d => by
      cases q : H b with
      | none => rfl
      | some u =>
        have e' : b = a := hA b (by rw [q]; simp)
        subst e'
        rw [ha] at e; cases e
        have d' : Data.seq vs.toArray _ = Data.dict es ep := d
        cases d'
    have nsK : ∀ {b : Addr} {m : Str → Option Value}, s₁.heap.Ns b m → (hidT s₁.heap H).Ns b m := fun {b m} ⟨o, es, ep, e, d, r⟩ => ⟨o, es, ep, base_of e (noA e d), d, r⟩
    have hKb : K.In (hidT s₁.heap H) := fun b o e => base_of (KX b o e) (by
      cases q : H b with
      | none => rfl
      | some u =>
        have e' : b = a := hA b (by rw [q]; simp)
        subst e'
        rw [hK (by rw [q]; simp)] at e; cases e)
    have hM : Mod K mg (hidT s₁.heap H) := ⟨hKb, nsK hns, ⟨mb, nsK hb, hbb⟩, let ⟨mc, h1, h2⟩ := hlim; ⟨mc, nsK h1, h2⟩⟩
    have e0 : Env0 P w K mg (hidT s₁.heap H) callerA [] s₁ H := ⟨rfl, hM, fun b o e => of_hidT e, Nat.le_of_eq (hidT_size _ _), trivial, fun b hb => absurd (show b ∈ ([] : List Addr) from hb) (by simp), hok, .of_eq hg⟩
    refine codeAny_mono ((F _ hKb (nsK hns)).run callerA [] s₁ H ⟨[.ref a], []⟩ [.ref a] [.ref a] _ _ hr e0 (hbind s₁ (.ref a)) (.cons rfl .nil) (hsp H hO hS)) fun r s' h => ?_
    cases r with
    | error e => exact (hCX H e s' h).elim
    | ok fl =>
      cases fl with
      | next => exact False.elim h
      | brk => exact False.elim h
      | cont => exact False.elim h
      | ret u =>
        obtain ⟨v, H', os, bare, un, hok', r', q⟩ := h
        have q' : v = .bl true := q
        subst q'
        obtain rfl : u = Value.bool true := r'
        refine ⟨rfl, OldK.of_keep fun b o e => ?_, os, bare⟩
        cases q : H b with
        | none => exact un.keep b o e q (by intro z; exact absurd (show b ∈ ([] : List Addr) from z) (by simp)) (by simp)
        | some u =>
          rcases hO b with z | ⟨ob, xs, z⟩
          · rw [q] at z; cases z
          · have z2 := un.frzs b ob _ z
            obtain ⟨e1, _⟩ := hok b _ z
            obtain ⟨e2, _⟩ := hok' b _ z2
            rw [e] at e1; cases e1
            exact e2
  cases hk : K.lookup a with
  | some o =>
    have e := KX a o hk
    rw [ha] at e
    cases e
    refine core (fun _ => none) (fun _ => .inl rfl) (.inr ⟨_, vs.toArray, _, hk, rfl, rfl, rfl, by rw [List.size_toArray, lenV]; exact hl, by simpa using rv⟩) (fun b u z => by have z' : (none : Option HO) = some u := z; cases z') (fun b z => absurd rfl z) fun z => absurd rfl z
  | none =>
    refine core (fun b => if b = a then some (.frz { cls := .type "list", data := .seq vs.toArray } (.lst (ns.map V.int))) else none) (fun b => ?_) (.inl (.inr ⟨{ cls := .type "list", data := .seq vs.toArray }, if_pos rfl⟩)) (fun b u z => ?_) (fun b z => ?_) fun _ => hk
    · by_cases hb : b = a
      · exact .inr ⟨_, _, if_pos hb⟩
      · exact .inl (if_neg hb)
    · by_cases hb : b = a
      · have z' := (if_pos hb).symm.trans z
        cases z'
        subst hb
        exact ⟨ha, by rw [List.length_map]; exact hl, vs, _, rv, ha⟩
      · have z' := (if_neg hb).symm.trans z
        cases z'
    · by_cases hb : b = a
      · exact hb
      · exact absurd (if_neg hb) z
end L2
namespace L2
open PySem PySem.Spec PyProof.Rows
abbrev KOf {K : PySem.W.Frag} {h : Heap} (_ : K.In h) : PySem.W.Frag := K
theorem walk_of {l : PySem.W.OpenLaw} {n k : Nat} {q : Program} {loose : List Str} {XP : (Str → Option Value) → Heap → Prop} {YP : World → Heap → Prop} {d : DefRec} {K : Params → PySem.W.Frag} {CX : World → CXT} {sp : World → Sp} {x : Str}
    (hn : l.most = some n) (hn2 : n ≤ sizeLine) (hdf : d.params.defaults = []) (hr : Room k callerA)
    (hY : ∀ (w : World) (h : Heap), YP w h → (K w.params).In h)
    (F : ∀ (w : World) (mg : Str → Option Value) (fa : Addr) (h : Heap), (K w.params).In h → h.Ns mainGlobals mg → mg d.name = some (.ref fa) →
      ∃ fd : FuncData, (∀ (s : Shared) (u : Value), BindsTo s fd ⟨[u], []⟩ [(x, u)]) ∧
        ∀ base : Heap, (K w.params).In base → base.Ns mainGlobals mg → FnOk l.prog w (K w.params) mg base (CX w) k fa fd [x] (sp w))
    (hsp : ∀ (w : World) (H : Hp) (a : Addr) (ns : List Int), ns.length ≤ n → Only H → SqL (K w.params) H a (ns.map V.int) → sp w [.ref a] H (fun v _ => v = .bl true) fun _ _ _ => False)
    (hCX : ∀ (w : World) (H : Hp) (s : Shared) (e : Value) (s' : Shared), CX w [] H s (fun _ _ _ => False) e s' → False) :
    PySem.W.WalkO q loose XP YP l.row.toRowW d [] (fun f vs => PySem.call f vs) := by
  refine Att.attach_call hn hdf fun w s₀ s₁ mg mb fa o pm cd doc a vs ns G Y ho hd hcd hmg hobj hints hlen hg => ?_
  have KX := hY w _ Y
  obtain ⟨fd, hb, hF⟩ := F w mg fa _ KX G.T.g hmg
  exact law_call KX G.T.g G.T.b G.T.builtins G.T.nolimit hg hobj hints (Nat.le_trans hlen hn2) hr hF hb (fun H hO hS => hsp w H a ns hlen hO hS) fun H e s' => hCX w H s₁ e s'
end L2
namespace L2
open PySem PySem.Spec PyProof.Rows
abbrev CX0 : CXT := fun _ _ _ _ _ _ => False
abbrev E0 : XK := fun _ _ _ => False
theorem pass0 {X : Cx} : Passes CX0 X E0 := fun _ _ _ _ _ _ _ h => h.elim
structure Fun (K : PySem.W.Frag) (x qual : Str) (st : Stmt) (f : Addr) (fd : FuncData) : Prop where
  ex : ∃ (oc : Value) (od : Option Addr) (kV doc pm : Value) (an : Option Addr) (cdv ct : Value) (osl : Array (Option Value)),
    fd = PySem.W.fnOf x qual (defArgs st) (defBody st) (defScope st) .none kV doc pm an cdv ct ∧ K.lookup f = some ⟨oc, od, .func fd, osl⟩ ∧ PySem.W.codeIn K cdv qual = true
  kp : PySem.W.keepIn K (.ref f) = true
section
variable {P : Program} {w : World} {K : PySem.W.Frag} {mg : Str → Option Value} {base : Heap}
theorem Fun.ok {x qual : Str} {st : Stmt} {f : Addr} {fd : FuncData} {N ps : List Str} {k : Nat} {sp : Sp} (F : Fun K x qual st f fd) (S : FnScope N ps (defScope st)) (len : ∀ vs H Q E, sp vs H Q E → vs.length = ps.length)
    (hbody : ∀ (cdv : Value) (A : Around) (outer : List Env) (s : Shared) (H : Hp) (vs : List V) (Q : VK) (E : XK), Room k (A.deeper (envOfC qual (defScope st) s.heap.objs.size f cdv)) → sp vs H Q E →
      ∃ t, PSs (cxOf CX0 P w K mg base N qual (defScope st) f cdv A outer s H E).nox (defBody st) t ∧ t { nx := fun _ H' => Q .non H', rt := Q } (start N vs) H) : FnOk P w K mg base CX0 (k + 1) f fd ps sp := by
  obtain ⟨oc, od, kV, doc, pm, an, cdv, ct, osl, rfl, lk, hcd⟩ := F.ex
  refine fn_of lk hcd S len fun A outer s H vs Q E hr hsp => ?_
  obtain ⟨t, h, q⟩ := hbody cdv A outer s H vs Q E hr hsp
  exact ⟨t, h.nox, q⟩
theorem Fun.binds {x qual : Str} {st : Stmt} {f : Addr} {fd : FuncData} {ps : List Str} (F : Fun K x qual st f fd)
    (h : ∀ (kV doc pm : Value) (an : Option Addr) (cdv ct : Value) (us : List Value), us.length = ps.length → bindArgs (PySem.W.fnOf x qual (defArgs st) (defBody st) (defScope st) .none kV doc pm an cdv ct) ⟨us, []⟩ = pure (ps.zip us)) : Binds K fd ps [] := by
  obtain ⟨oc, od, kV, doc, pm, an, cdv, ct, osl, rfl, lk, hcd⟩ := F.ex
  exact .all (h kV doc pm an cdv ct)
theorem fun_mk {x qual : Str} {st : Stmt} {f : Addr} {oc : Value} {od an : Option Addr} {osl : Array (Option Value)} {kV doc pm cdv ct : Value} (l : K.lookup f = some ⟨oc, od, .func (PySem.W.fnOf x qual (defArgs st) (defBody st) (defScope st) .none kV doc pm an cdv ct), osl⟩)
    (c : PySem.W.codeIn K cdv qual = true) (k : PySem.W.keepIn K (.ref f) = true) : Fun K x qual st f (PySem.W.fnOf x qual (defArgs st) (defBody st) (defScope st) .none kV doc pm an cdv ct) := ⟨⟨oc, od, kV, doc, pm, an, cdv, ct, osl, rfl, l, c⟩, k⟩
end
theorem small1000 {n : Nat} (h : n ≤ 1000) : n < sizeLine := Nat.lt_of_le_of_lt h (by decide)
section
variable {X : Cx}
theorem pv (i : Nat) {x : Str} {pos : Pos} (hN : X.N[i]? = some x := by rfl) (hv : Vis X.env.scope x := by first | exact Or.inl rfl | exact Or.inr (Or.inl rfl) | exact Or.inr (Or.inr rfl)) (hd : (x == ("__debug__" : Str)) = false := by decide)
    (hcd : (x == ("__classdict__" : Str)) = false := by decide) : PE X (.Name x pos) (tVar i) := pe_var hN hv hd hcd
end
theorem iteF {A B : Prop} (h : B) : if false = true then A else B := by
  rw [if_neg Bool.false_ne_true]
  exact h
theorem iteT {A B : Prop} (h : A) : if true = true then A else B := by
  rw [if_pos rfl]
  exact h
theorem ite2 {c A B : Prop} [Decidable c] (h1 : c → A) (h2 : ¬ c → B) : if c then A else B := by
  by_cases h : c
  · rw [if_pos h]
    exact h1 h
  · rw [if_neg h]
    exact h2 h
def Same (H H' : Hp) : Prop := ∀ b o, H b = some o → H' b = some o
theorem Same.refl (H : Hp) : Same H H := fun _ _ h => h
theorem Same.trans {H H1 H2 : Hp} (a : Same H H1) (b : Same H1 H2) : Same H H2 := fun c o h => b c o (a c o h)
theorem Same.free {H H' : Hp} (e : Same H H') {l : Addr} (h : H' l = Option.none) : H l = Option.none := by
  cases q : H l with
  | none => rfl
  | some o =>
    rw [e l o q] at h
    cases h
theorem Same.seq {K : PySem.W.Frag} {H H' : Hp} {a : Addr} {xs : List V} (e : Same H H') (h : SqL K H a xs) : SqL K H' a xs := by
  rcases h with (h | ⟨o, h⟩) | h
  · exact .inl (.inl (e _ _ h))
  · exact .inl (.inr ⟨o, e _ _ h⟩)
  · exact .inr h
end L2
set_option Elab.async false
set_option linter.all false
set_option maxRecDepth 100000
namespace L2
open PySem PySem.Spec PyProof.Rows
inductive D where
  | non | bl (b : Bool) | int (i : Int) | str (x : Str) | tup (xs : List D) | lst (xs : List D)
mutual
def IsD (K : PySem.W.Frag) (H : Hp) : D → V → Prop
  | .non, v => v = .non
  | .bl b, v => v = .bl b
  | .int i, v => v = .int i
  | .str x, v => v = .str x
  | .tup ds, v => ∃ a vs, v = .ref a ∧ SqT K H a vs ∧ AreD K H ds vs
  | .lst ds, v => ∃ a vs, v = .ref a ∧ SqL K H a vs ∧ AreD K H ds vs
def AreD (K : PySem.W.Frag) (H : Hp) : List D → List V → Prop
  | [], vs => vs = []
  | d :: ds, vs => ∃ v r, vs = v :: r ∧ IsD K H d v ∧ AreD K H ds r
end
mutual
def eqD : D → D → Bool
  | .non, .non => true
  | .bl a, .bl b => a == b
  | .bl a, .int b => (if a then 1 else 0) == b
  | .int a, .bl b => a == (if b then 1 else 0)
  | .int a, .int b => a == b
  | .str a, .str b => a == b
  | .tup xs, .tup ys => eqDs xs ys
  | .lst xs, .lst ys => eqDs xs ys
  | _, _ => false
def eqDs : List D → List D → Bool
  | [], [] => true
  | x :: xs, y :: ys => eqD x y && eqDs xs ys
  | _, _ => false
end
mutual
def dpD : D → Nat
  | .tup xs => dpDs xs + 1
  | .lst xs => dpDs xs + 1
  | _ => 0
def dpDs : List D → Nat
  | [] => 0
  | d :: ds => max (dpD d) (dpDs ds)
end
mutual
theorem eqD_refl : ∀ d : D, eqD d d = true
  | .non => rfl
  | .bl b => by simp [eqD]
  | .int b => by simp [eqD]
  | .str b => by simp [eqD]
  | .tup xs => by simp only [eqD]; exact eqDs_refl xs
  | .lst xs => by simp only [eqD]; exact eqDs_refl xs
theorem eqDs_refl : ∀ d : List D, eqDs d d = true
  | [] => rfl
  | x :: xs => by simp only [eqDs, eqD_refl x, eqDs_refl xs, Bool.and_self]
end
theorem AreD.length {K : PySem.W.Frag} {H : Hp} : ∀ {ds : List D} {vs : List V}, AreD K H ds vs → ds.length = vs.length
  | [], vs, h => by
    have e : vs = [] := h
    subst e
    rfl
  | d :: ds, vs, h => by
    obtain ⟨v, r, e, _, h2⟩ := (show ∃ v r, vs = v :: r ∧ IsD K H d v ∧ AreD K H ds r from h)
    rw [e, List.length_cons, List.length_cons, AreD.length h2]
theorem AreD.get {K : PySem.W.Frag} {H : Hp} : ∀ {ds : List D} {vs : List V} {i : Nat} {d : D}, AreD K H ds vs → ds[i]? = some d → ∃ v, vs[i]? = some v ∧ IsD K H d v
  | [], vs, i, d, _, e => by simp at e
  | d :: ds, vs, 0, d', h, e => by
    obtain ⟨v, r, rfl, h1, _⟩ := (show ∃ v r, vs = v :: r ∧ IsD K H d v ∧ AreD K H ds r from h)
    simp at e; subst e
    exact ⟨v, rfl, h1⟩
  | d :: ds, vs, i + 1, d', h, e => by
    obtain ⟨v, r, rfl, _, h2⟩ := (show ∃ v r, vs = v :: r ∧ IsD K H d v ∧ AreD K H ds r from h)
    obtain ⟨v', e1, h3⟩ := AreD.get (i := i) h2 (by simpa using e)
    exact ⟨v', by simpa using e1, h3⟩
section
variable {X : Cx} {pins : List (Addr × Obj)} {σ : St} {H : Hp} {s : Shared}
theorem Inv.not_both (I : Inv X pins σ H s) {a : Addr} {xs ys : List V} (h : SqL X.K H a xs) (h' : SqT X.K H a ys) : False := by
  obtain ⟨its, r, ⟨o, n, e, c, _⟩, _⟩ := I.list h
  obtain ⟨its', r', ⟨o', e', c', _⟩, _⟩ := I.tuple h'
  rw [e] at e'; cases e'
  rw [c] at c'
  injection c' with c''
  exact absurd c'' (by decide)
mutual
theorem IsD.inj (I : Inv X pins σ H s) : ∀ (d e : D) (v : V), IsD X.K H d v → IsD X.K H e v → d = e
  | .non, e, v, h, h' => by
    have q : v = .non := h
    subst q
    cases e with
    | non => rfl
    | tup _ => obtain ⟨_, _, z, _⟩ := h'; cases z
    | lst _ => obtain ⟨_, _, z, _⟩ := h'; cases z
    | _ => cases (show V.non = _ from h')
  | .bl b, e, v, h, h' => by
    have q : v = .bl b := h
    subst q
    cases e with
    | bl c => cases (show V.bl b = V.bl c from h'); rfl
    | tup _ => obtain ⟨_, _, z, _⟩ := h'; cases z
    | lst _ => obtain ⟨_, _, z, _⟩ := h'; cases z
    | _ => cases (show V.bl b = _ from h')
  | .int b, e, v, h, h' => by
    have q : v = .int b := h
    subst q
    cases e with
    | int c => cases (show V.int b = V.int c from h'); rfl
    | tup _ => obtain ⟨_, _, z, _⟩ := h'; cases z
    | lst _ => obtain ⟨_, _, z, _⟩ := h'; cases z
    | _ => cases (show V.int b = _ from h')
  | .str b, e, v, h, h' => by
    have q : v = .str b := h
    subst q
    cases e with
    | str c => cases (show V.str b = V.str c from h'); rfl
    | tup _ => obtain ⟨_, _, z, _⟩ := h'; cases z
    | lst _ => obtain ⟨_, _, z, _⟩ := h'; cases z
    | _ => cases (show V.str b = _ from h')
  | .tup ds, e, v, h, h' => by
    obtain ⟨a, vs, rfl, q, ar⟩ := (show ∃ a vs, v = .ref a ∧ SqT X.K H a vs ∧ AreD X.K H ds vs from h)
    cases e with
    | tup es =>
      obtain ⟨a', ws, z, q', ar'⟩ := (show ∃ a' vs, V.ref a = .ref a' ∧ SqT X.K H a' vs ∧ AreD X.K H es vs from h')
      cases z
      have e := I.tuple_inj q q'
      subst e
      rw [AreD.inj I ds es vs ar ar']
    | lst es =>
      obtain ⟨a', ws, z, q', ar'⟩ := (show ∃ a' vs, V.ref a = .ref a' ∧ SqL X.K H a' vs ∧ AreD X.K H es vs from h')
      cases z
      exact (I.not_both q' q).elim
    | non => cases (show V.ref a = _ from h')
    | bl _ => cases (show V.ref a = _ from h')
    | int _ => cases (show V.ref a = _ from h')
    | str _ => cases (show V.ref a = _ from h')
  | .lst ds, e, v, h, h' => by
    obtain ⟨a, vs, rfl, q, ar⟩ := (show ∃ a vs, v = .ref a ∧ SqL X.K H a vs ∧ AreD X.K H ds vs from h)
    cases e with
    | lst es =>
      obtain ⟨a', ws, z, q', ar'⟩ := (show ∃ a' vs, V.ref a = .ref a' ∧ SqL X.K H a' vs ∧ AreD X.K H es vs from h')
      cases z
      have e := I.list_inj q q'
      subst e
      rw [AreD.inj I ds es vs ar ar']
    | tup es =>
      obtain ⟨a', ws, z, q', ar'⟩ := (show ∃ a' vs, V.ref a = .ref a' ∧ SqT X.K H a' vs ∧ AreD X.K H es vs from h')
      cases z
      exact (I.not_both q q').elim
    | non => cases (show V.ref a = _ from h')
    | bl _ => cases (show V.ref a = _ from h')
    | int _ => cases (show V.ref a = _ from h')
    | str _ => cases (show V.ref a = _ from h')
theorem AreD.inj (I : Inv X pins σ H s) : ∀ (ds es : List D) (vs : List V), AreD X.K H ds vs → AreD X.K H es vs → ds = es
  | [], es, vs, h, h' => by
    have q : vs = [] := h
    subst q
    cases es with
    | nil => rfl
    | cons e es => obtain ⟨_, _, z, _⟩ := h'; cases z
  | d :: ds, es, vs, h, h' => by
    obtain ⟨v, r, rfl, h1, h2⟩ := (show ∃ v r, vs = v :: r ∧ IsD X.K H d v ∧ AreD X.K H ds r from h)
    cases es with
    | nil => cases (show v :: r = [] from h')
    | cons e es =>
      obtain ⟨v', r', z, h1', h2'⟩ := (show ∃ v' r', v :: r = v' :: r' ∧ IsD X.K H e v' ∧ AreD X.K H es r' from h')
      cases z
      rw [IsD.inj I d e v h1 h1', AreD.inj I ds es r h2 h2']
end
def flD : D → Option V
  | .non => some .non
  | .bl b => some (.bl b)
  | .int i => some (.int i)
  | .str x => some (.str x)
  | _ => none
theorem rel_getElem {xs : List V} {us : List Value} (r : Vals xs us) {j : Nat} (h : j < us.length) {x : V} (e : xs[j]? = some x) : RelV x us[j] := by
  obtain ⟨u, e1, q⟩ := r.get e
  rw [List.getElem?_eq_getElem h] at e1
  cases e1
  exact q
def EqIn (A : Around) (s : Shared) (K : PySem.W.Frag) (H : Hp) (ds : List D) : Prop := ∀ d ∈ ds, ∀ (e : D) (x y : V) (u v : Value), IsD K H d x → IsD K H e y → RelV x u → RelV y v → SeqAt.EqAt A s u v (eqD d e)
theorem EqIn.at {A : Around} {K : PySem.W.Frag} {ds es : List D} {vs vs' : List V} {its its' : List Value} (E : EqIn A s K H ds) (ar : AreD K H ds vs) (ar' : AreD K H es vs') (r : Vals vs its) (r' : Vals vs' its') {j : Nat} (h1 : j < its.toArray.size) (h2 : j < its'.toArray.size) (j1 : j < ds.length) (j2 : j < es.length) :
    SeqAt.EqAt A s its.toArray[j] its'.toArray[j] (eqD (ds.getD j .non) (es.getD j .non)) := by
  obtain ⟨x1, g1, i1⟩ := ar.get (List.getElem?_eq_getElem j1)
  obtain ⟨y1, g2, i2⟩ := ar'.get (List.getElem?_eq_getElem j2)
  have d1 : ds.getD j .non = ds[j] := by simp [j1]
  have d2 : es.getD j .non = es[j] := by simp [j2]
  rw [d1, d2]
  exact E _ (List.getElem_mem j1) _ x1 y1 _ _ i1 i2 (rel_getElem r (by simpa using h1) g1) (rel_getElem r' (by simpa using h2) g2)
end
end L2
set_option Elab.async false
set_option linter.all false
set_option maxRecDepth 100000
namespace L2
open PySem PySem.Spec PyProof.Rows
section
variable {X : Cx}
def rEqD (K : PySem.W.Frag) (A : Around) : R2 := fun x y H Q => ∃ d e, IsD K H d x ∧ IsD K H e y ∧ A.units + dpD d < cLine ∧ Q (.bl (eqD d e)) H
def rNeD (K : PySem.W.Frag) (A : Around) : R2 := fun x y H Q => ∃ d e, IsD K H d x ∧ IsD K H e y ∧ A.units + dpD d < cLine ∧ Q (.bl (!eqD d e)) H
theorem call_isi : CallR X (.builtin "isinstance") (fun xs H Q => ∃ x T t b, xs = [x, .ty T] ∧ TyOf X.K H x t ∧ PySem.W.kitOne X.K t (.type T) = some b ∧ Q (.bl b) H) := by
  intro pins s σ H xs us Q I r h
  obtain ⟨x, T, t, b, rfl, ty, e, q⟩ := h
  obtain ⟨u, w', rfl, rx, ry⟩ := vals2 r
  cases ry
  exact isinst_ok I rx ty e (fun tk => ⟨.bl b, H, I.tok _, rfl, q⟩)
end
end L2
set_option Elab.async false
set_option linter.all false
set_option maxRecDepth 100000
namespace L2
open PySem PySem.Spec PyProof.Rows
abbrev noE : Value → Shared → Prop := fun _ _ => False
def testsOf (ifs : List Expr) (env : Env) : Sem Bool :=
  forIn ifs true fun c r => if r = true then (isTrue c env (eval c env) >>= fun b => pure (ForInStep.yield b)) else pure (ForInStep.yield r)
section
variable (prog : Program) (w : World) (A : Around) (tg elt : Expr) (ifs : List Expr) (env : Env) (it acc : Value)
def TurnEnd (nxt : Shared → Prop) (ok : Bool) (s : Shared) : Prop :=
  if ok = true then wpAny (model prog w) A (eval elt env) (fun y s1 => wpAny (model prog w) A (call (.builtin "list.append") [acc, y]) (fun _ s2 => nxt s2) noE s1) noE s else nxt s
def TurnGo (nxt : Shared → Prop) (v : Value) (s : Shared) : Prop :=
  wpAny (model prog w) A (letOwnedTupleGo tg it v) (fun _ s1 => wpAny (model prog w) A (assign tg env v) (fun _ s2 => wpAny (model prog w) A (testsOf ifs env) (TurnEnd prog w A elt env acc nxt) noE s2) noE s1) noE s
end
theorem compLoop_gen {prog : Program} {w : World} {A : Around} {R : Result → Shared → Prop} {s : Shared} {elt tg iter : Expr} {ifs : List Expr} {scope : Scope} {pos : Pos} {it acc : Value} {env : Env} (W : Nat → Shared → Prop)
    (turn : ∀ m s1, W m s1 → wpAny (model prog w) A (pyNext it) (fun r s2 => r.elim (R (.ok .next) s2) fun v => TurnGo prog w A tg elt ifs env it acc (fun s3 => ∃ m', m' < m ∧ W m' s3) v s2) noE s1)
    (m : Nat) (start : W m s) : codeAny (model prog w) A (.compLoop (.ListComp elt [⟨tg, iter, ifs, 0⟩] scope pos) 0 it acc env) R s := by
  refine codeAny_loop rfl W (fun k s1 hw => ?_) m start
  refine wpAny_noted (env := env) (m := compTurn (.ListComp elt [⟨tg, iter, ifs, 0⟩] scope pos) 0 it acc env) ?_
  rw [compTurn_list]
  refine wpAny_bind (wpAny_standAt (wpAny_bind (wpAny_mono (turn k s1 hw) (fun r s2 q => ?_) fun _ _ z => z.elim)))
  cases r with
  | none => exact wpAny_pure q
  | some v =>
    have q : TurnGo prog w A tg elt ifs env it acc (fun s3 => ∃ m', m' < k ∧ W m' s3) v s2 := q
    refine wpAny_bind (wpAny_mono q (fun _ s3 q3 => wpAny_bind (wpAny_mono q3 (fun _ s4 q4 => wpAny_bind (wpAny_mono q4 (fun ok s5 q5 => ?_) fun _ _ z => z.elim)) fun _ _ z => z.elim)) fun _ _ z => z.elim)
    cases ok with
    | false => exact wpAny_pure ⟨rfl, q5⟩
    | true => exact wpAny_bind (wpAny_bind (wpAny_mono q5 (fun y s6 q6 => wpAny_bind (wpAny_mono q6 (fun _ s7 q7 => wpAny_pure (wpAny_pure ⟨rfl, q7⟩)) fun _ _ z => z.elim)) fun _ _ z => z.elim))
def closOf (env : Env) : List (Str × NameKind) → List (Str × Addr) → List (Str × Addr)
  | [], cs => cs
  | (n, k) :: r, cs => closOf env r (if k == .free then (n, (env.cells.lookup n).getD 0) :: cs else cs)
def cxComp (X : Cx) (scope : Scope) (N : List Str) (fp : List Addr) (s : Shared) (H : Hp) : Cx :=
  { X with N := N, s₀ := s, H₀ := H, env := compEnvC scope (closOf X.env scope.names []) s.heap.objs.size X.env, outer := X.stack, stack := X.stack, ex := fp, fn := fun _ => false, pn := [], xe := noE }
structure CompOk (X : Cx) (scope : Scope) (N : List Str) (fr : List (Option Nat)) : Prop where
  clos : closureFor scope X.env = pure (closOf X.env scope.names [])
  kind : scope.kind = .function
  nocell : ∀ y ∈ scope.names, y.2 ≠ .cell
  names : ∀ y ∈ scope.names, y.2 = .local → scope.names.lookup y.1 = some .local
  cells : ∀ x c, (closOf X.env scope.names []).lookup x = some c → X.env.cells.lookup x = some c
  has : ∀ x, ((relabel scope X.env).names.lookup x = some .cell ∨ (relabel scope X.env).names.lookup x = some .free) → ∃ c, (closOf X.env scope.names []).lookup x = some c
  len : fr.length = N.length
  fr : ∀ (i j : Nat), fr[i]? = some (some j) → ∃ x, N[i]? = some x ∧ X.N[j]? = some x ∧ Vis X.env.scope x ∧ ¬ X.env.kindOf x = some .local ∧ ((relabel scope X.env).names.lookup x = some .cell ∨ (relabel scope X.env).names.lookup x = some .free)
def frees (fr : List (Option Nat)) (σ : St) : St := fr.map fun o => o.bind fun i => (σ[i]?).bind id
theorem frees_length (fr : List (Option Nat)) (σ : St) : (frees fr σ).length = fr.length := List.length_map _
theorem frees_get {fr : List (Option Nat)} {σ : St} {i : Nat} {v : V} (h : (frees fr σ)[i]? = some (some v)) : ∃ j, fr[i]? = some (some j) ∧ σ[j]? = some (some v) := by
  unfold frees at h
  rw [List.getElem?_map] at h
  cases e : fr[i]? with
  | none => rw [e] at h; cases h
  | some o =>
    rw [e] at h
    cases o with
    | none => cases h
    | some j =>
      refine ⟨j, rfl, ?_⟩
      have h' : (σ[j]?).bind id = some v := Option.some.inj h
      cases e2 : σ[j]? with
      | none => rw [e2] at h'; cases h'
      | some o2 => rw [e2] at h'; exact congrArg some h'
theorem mem_relabel {scope : Scope} {env : Env} {x : Str} {k : NameKind} (h : (relabel scope env).names.lookup x = some k) : ∃ k0, (x, k0) ∈ scope.names ∧ (k = k0 ∨ (k0 = .free ∧ k = .cell)) := by
  have hm := PySem.mem_of_lookup h
  obtain ⟨⟨n, k0⟩, h1, h2⟩ := List.mem_map.mp (show (x, k) ∈ scope.names.map _ from hm)
  dsimp only at h2
  split at h2
  · rename_i hc
    cases h2
    simp only [Bool.and_eq_true, beq_iff_eq] at hc
    exact ⟨k0, h1, .inr ⟨hc.1.1, rfl⟩⟩
  · cases h2
    exact ⟨k, h1, .inl rfl⟩
def scOk (outer scope : Scope) : Bool :=
  decide (scope.kind = .function) && scope.names.all fun y => decide (y.2 ≠ .cell) && (decide (y.2 ≠ .local) || decide (scope.names.lookup y.1 = some .local)) &&
    (decide (y.2 ≠ .free) || decide (outer.names.lookup y.1 = some .cell) || decide (outer.names.lookup y.1 = some .free))
def frOk (NX : List Str) (names : List (Str × NameKind)) : List Str → List (Option Nat) → Bool
  | [], [] => true
  | _ :: N, none :: fr => frOk NX names N fr
  | x :: N, some j :: fr => decide (NX[j]? = some x) && decide (names.lookup x = some .free) && frOk NX names N fr
  | _, _ => false
theorem frOk_len {NX : List Str} {names : List (Str × NameKind)} : ∀ {N : List Str} {fr : List (Option Nat)}, frOk NX names N fr = true → fr.length = N.length
  | [], [], _ => rfl
  | [], _ :: _, h => by simp [frOk] at h
  | _ :: _, [], h => by simp [frOk] at h
  | x :: N, none :: fr, h => by
    simp only [frOk] at h
    simp only [List.length_cons, frOk_len h]
  | x :: N, some j :: fr, h => by
    simp only [frOk, Bool.and_eq_true] at h
    simp only [List.length_cons, frOk_len h.2]
theorem frOk_get {NX : List Str} {names : List (Str × NameKind)} : ∀ {N : List Str} {fr : List (Option Nat)} {i j : Nat}, frOk NX names N fr = true → fr[i]? = some (some j) → ∃ x, N[i]? = some x ∧ NX[j]? = some x ∧ names.lookup x = some .free
  | [], [], _, _, _, e => by simp at e
  | [], _ :: _, _, _, h, _ => by simp [frOk] at h
  | _ :: _, [], _, _, h, _ => by simp [frOk] at h
  | x :: N, none :: fr, 0, _, _, e => by simp at e
  | x :: N, none :: fr, i + 1, j, h, e => by
    simp only [frOk] at h
    obtain ⟨y, h1, h2⟩ := frOk_get (i := i) h (by simpa using e)
    exact ⟨y, by simpa using h1, h2⟩
  | x :: N, some k :: fr, 0, j, h, e => by
    simp only [frOk, Bool.and_eq_true, decide_eq_true_eq] at h
    simp at e
    subst e
    exact ⟨x, rfl, h.1.1, h.1.2⟩
  | x :: N, some k :: fr, i + 1, j, h, e => by
    simp only [frOk, Bool.and_eq_true] at h
    obtain ⟨y, h1, h2⟩ := frOk_get (i := i) h.2 (by simpa using e)
    exact ⟨y, by simpa using h1, h2⟩
theorem lookup_map_kind {f : Str → NameKind → NameKind} (x : Str) : ∀ names : List (Str × NameKind), (names.map fun p => (p.1, f p.1 p.2)).lookup x = (names.lookup x).map (f x)
  | [] => rfl
  | (n, k) :: r => by
    have ih := lookup_map_kind (f := f) x r
    cases e : x == n with
    | false =>
      simp only [List.map_cons, List.lookup_cons, e]
      exact ih
    | true =>
      have e' : x = n := by simpa using e
      simp only [List.map_cons, List.lookup_cons, e, Option.map_some]
      rw [e']
theorem relabel_names (scope : Scope) (env : Env) : (relabel scope env).names = scope.names.map fun p => (p.1, if (p.2 == NameKind.free && env.scope.kind == .function && env.kindOf p.1 == some .cell) = true then NameKind.cell else p.2) := by
  show scope.names.map _ = _
  refine List.map_congr_left fun p _ => ?_
  obtain ⟨n, k⟩ := p
  dsimp only
  split <;> rfl
theorem lookup_relabel_free {scope : Scope} {env : Env} {x : Str} (h : scope.names.lookup x = some .free) : (relabel scope env).names.lookup x = some .cell ∨ (relabel scope env).names.lookup x = some .free := by
  rw [relabel_names, lookup_map_kind (f := fun n k => if (k == NameKind.free && env.scope.kind == .function && env.kindOf n == some .cell) = true then NameKind.cell else k), h]
  dsimp only [Option.map_some]
  split
  · exact .inl rfl
  · exact .inr rfl
theorem closOf_mem {env : Env} : ∀ {names : List (Str × NameKind)} {cs : List (Str × Addr)}, (∀ y ∈ names, y.2 = .free → ∃ c, env.cells.lookup y.1 = some c) → (∀ p ∈ cs, env.cells.lookup p.1 = some p.2) → ∀ p ∈ closOf env names cs, env.cells.lookup p.1 = some p.2
  | [], cs, _, hc, p, hp => hc p hp
  | (n, k) :: r, cs, hn, hc, p, hp => by
    simp only [closOf] at hp
    refine closOf_mem (fun y hy => hn y (List.mem_cons_of_mem _ hy)) (fun q hq => ?_) p hp
    split at hq
    · rename_i hk
      rcases List.mem_cons.mp hq with e | hq
      · obtain ⟨c, hc'⟩ := hn (n, k) List.mem_cons_self (by simpa using hk)
        subst e
        dsimp only at hc' ⊢
        rw [hc']
        rfl
      · exact hc q hq
    · exact hc q hq
theorem closOf_old {env : Env} : ∀ {names : List (Str × NameKind)} {cs : List (Str × Addr)} {p : Str × Addr}, p ∈ cs → p ∈ closOf env names cs
  | [], _, _, h => h
  | (n, k) :: r, cs, p, h => by
    simp only [closOf]
    refine closOf_old ?_
    split
    · exact List.mem_cons_of_mem _ h
    · exact h
theorem closOf_has {env : Env} : ∀ {names : List (Str × NameKind)} {cs : List (Str × Addr)} {x : Str}, (x, NameKind.free) ∈ names → ∃ c, (x, c) ∈ closOf env names cs
  | (n, k) :: r, cs, x, h => by
    rcases List.mem_cons.mp h with e | h
    · cases e
      exact ⟨_, by simp only [closOf, beq_self_eq_true, if_true]; exact closOf_old List.mem_cons_self⟩
    · simp only [closOf]
      exact closOf_has h
theorem lookup_of_mem {β : Type} : ∀ {l : List (Str × β)} {x : Str} {b : β}, (x, b) ∈ l → ∃ c, l.lookup x = some c
  | (n, c) :: r, x, b, h => by
    cases hx : x == n with
    | true => exact ⟨c, by simp only [List.lookup_cons, hx]⟩
    | false =>
      rcases List.mem_cons.mp h with e | h
      · cases e
        simp at hx
      · obtain ⟨d, hd⟩ := lookup_of_mem h
        exact ⟨d, by simp only [List.lookup_cons, hx]; exact hd⟩
theorem closureFor_eq {scope : Scope} {env : Env} (h : ∀ y ∈ scope.names, y.2 = .free → ∃ c, env.cells.lookup y.1 = some c) : closureFor scope env = pure (closOf env scope.names []) := by
  have go : ∀ (names : List (Str × NameKind)) (cs : List (Str × Addr)), (∀ y ∈ names, y.2 = .free → ∃ c, env.cells.lookup y.1 = some c) →
      (forIn names cs fun x cs => (do
        if x.2 == NameKind.free then pure (ForInStep.yield ((x.1, ← cellOf env x.1) :: cs)) else pure (ForInStep.yield cs) : Sem (ForInStep (List (Str × Addr))))) = pure (closOf env names cs) := by
    intro names
    induction names with
    | nil => intro cs _; rfl
    | cons y r ih =>
      intro cs hn
      obtain ⟨n, k⟩ := y
      have hr : ∀ y ∈ r, y.2 = .free → ∃ c, env.cells.lookup y.1 = some c := fun y hy => hn y (List.mem_cons_of_mem _ hy)
      rw [List.forIn_cons]
      by_cases hk : k = .free
      · subst hk
        obtain ⟨c, hc⟩ := hn (n, .free) List.mem_cons_self rfl
        have ec : cellOf env n = pure c := by
          unfold cellOf
          dsimp only at hc
          rw [hc]
        simp only [beq_self_eq_true, if_true, ec, pure_bind, closOf]
        rw [ih _ hr]
        dsimp only at hc
        rw [hc]
        rfl
      · have hb : (k == NameKind.free) = false := by simpa using hk
        simp only [hb, Bool.false_eq_true, if_false, pure_bind, closOf]
        exact ih _ hr
  have := go scope.names [] h
  unfold closureFor
  simp only [bind_pure_comp] at this ⊢
  first
    | exact this
    | (simpa using this)
structure CompFr (X : Cx) (NX : List Str) (outer scope : Scope) (N : List Str) (fr : List (Option Nat)) : Prop where
  nx : X.N = NX
  sc : X.env.scope.names = outer.names
  ok1 : scOk outer scope = true
  ok2 : frOk NX scope.names N fr = true
theorem CompFr.ok {X : Cx} {NX : List Str} {outer scope : Scope} {N : List Str} {fr : List (Option Nat)} (C : CompFr X NX outer scope N fr) (ok : X.Ok) : CompOk X scope N fr := by
  have h1 := C.ok1
  unfold scOk at h1
  simp only [Bool.and_eq_true, decide_eq_true_eq, List.all_eq_true, Bool.or_eq_true] at h1
  obtain ⟨hk, hn⟩ := h1
  have kof : ∀ x, X.env.kindOf x = outer.names.lookup x := fun x => by
    show X.env.scope.names.lookup x = _
    rw [C.sc]
  have hfree : ∀ y ∈ scope.names, y.2 = .free → X.env.kindOf y.1 = some .cell ∨ X.env.kindOf y.1 = some .free := fun y hy e => by
    rcases (hn y hy).2 with (z | z) | z
    · exact absurd e z
    · exact .inl ((kof _).trans z)
    · exact .inr ((kof _).trans z)
  have hcell : ∀ y ∈ scope.names, y.2 = .free → ∃ c, X.env.cells.lookup y.1 = some c := fun y hy e => ok.has y.1 (hfree y hy e)
  refine ⟨closureFor_eq hcell, hk, fun y hy => (hn y hy).1.1, fun y hy e => ?_, fun x c e => ?_, fun x h => ?_, frOk_len C.ok2, fun i j e => ?_⟩
  · rcases (hn y hy).1.2 with z | z
    · exact absurd e z
    · exact z
  · exact closOf_mem hcell (fun p hp => by cases hp) (x, c) (PySem.mem_of_lookup e)
  · have hm : (x, NameKind.free) ∈ scope.names := by
      rcases h with h | h
      · obtain ⟨k0, h1, h2⟩ := mem_relabel h
        rcases h2 with h2 | ⟨h2, _⟩
        · exact absurd h2.symm (hn _ h1).1.1
        · subst h2; exact h1
      · obtain ⟨k0, h1, h2⟩ := mem_relabel h
        rcases h2 with h2 | ⟨_, h2⟩
        · subst h2; exact h1
        · cases h2
    obtain ⟨c, hc⟩ := closOf_has (env := X.env) (cs := []) hm
    exact lookup_of_mem hc
  · obtain ⟨x, q1, q2, q3⟩ := frOk_get C.ok2 e
    have hm := PySem.mem_of_lookup q3
    have hf := hfree (x, .free) hm rfl
    refine ⟨x, q1, by rw [C.nx]; exact q2, ?_, ?_, lookup_relabel_free q3⟩
    · exact .inr hf
    · intro z
      dsimp only at hf
      rw [z] at hf
      rcases hf with hf | hf <;> cases hf
section
variable {X : Cx} {scope : Scope} {N : List Str} {fr : List (Option Nat)} {pins : List (Addr × Obj)} {σ : St} {H : Hp} {s : Shared} {fp : List Addr}
theorem inv_comp (C : CompOk X scope N fr) (I : Inv X pins σ H s) (hf : ∀ b ∈ fp, FpOk X pins H b) (hob : ∀ b ∈ fp, ∃ o, s.heap.get? b = some o) {h1 : Heap} {tk : Nat}
    (hns : h1.Ns s.heap.objs.size fun _ => none) (hk : ∀ b o, s.heap.get? b = some o → h1.get? b = some o) :
    Inv (cxComp X scope N fp s H) [] (frees fr σ) H { s with heap := h1, toks := tk } := by
  have lt : ∀ b ∈ fp, b < s.heap.objs.size := fun b hb => let ⟨_, e⟩ := hob b hb; Heap.lt_size e
  have cellK : ∀ x c, (closOf X.env scope.names []).lookup x = some c → ∃ v, s.heap.IsCell c v := fun x c e => I.cell x c (C.cells x c e)
  have ck : ∀ c v, s.heap.IsCell c v → h1.IsCell c v := fun c v ⟨o, e, d⟩ => ⟨o, hk c o e, d⟩
  refine ⟨⟨I.ok.mod, C.kind, I.ok.glob, I.ok.blt, Nat.le_refl _, fun x y c e1 e2 => I.ok.inj x y c (C.cells x c e1) (C.cells y c e2), fun x h => C.has x h, fun x c h _ => absurd h Bool.false_ne_true, I.ok.hd, I.ok.frames, .inl rfl,
      fun b hb => ⟨Nat.ne_of_lt (lt b hb), fun x c e => (hf b hb).2.2.2.2.1 x c (C.cells x c e)⟩, I.bs, Nat.le_trans I.ok.bsz I.sz, fun b o e hb => ?_, fun b hb hb' => ?_, I.stack, I.stkFree⟩,
    rfl, I.bare, Un.kept hk, ⟨_, hns, fun i x v e1 e2 e3 => ?_⟩, fun x c e => ?_, I.hok.fresh (Nat.le_refl _), fun x c e => I.freeC x c (C.cells x c e), fun p hp => absurd (show p ∈ ([] : List (Addr × Obj)) from hp) (by simp), I.hok.kept hk, ?_⟩
  · rcases (hf b hb).2.2.2.1 with z | z
    · exact I.ok.noex b o e z
    · exact absurd (Nat.lt_of_lt_of_le (Heap.lt_size (I.ok.bs b o e).1) z) (Nat.lt_irrefl _)
  · rcases List.mem_cons.mp (I.stkSub b hb') with z | z
    · exact (hf b hb).2.1 z
    · exact (hf b hb).2.2.1 z
  · obtain ⟨j, q1, q2⟩ := frees_get e2
    obtain ⟨x', n1, n2, vis, nl, k⟩ := C.fr i j q1
    have ex : x = x' := Option.some.inj (e1.symm.trans n1)
    subst ex
    obtain ⟨m, hm, hl⟩ := I.loc
    obtain ⟨u, r, l⟩ := hl j x v n2 q2 vis
    refine ⟨u, r, ?_⟩
    rcases l with ⟨l1, _⟩ | ⟨_, c, l2, l3⟩
    · exact absurd l1 nl
    · obtain ⟨c', hc'⟩ := C.has x k
      have ec := C.cells x c' hc'
      rw [l2] at ec
      have ec' : c = c' := Option.some.inj ec
      subst ec'
      exact .inr ⟨k, c, hc', ck c _ l3⟩
  · obtain ⟨v, z⟩ := cellK x c e
    exact ⟨v, ck c v z⟩
  · show (frees fr σ).length = N.length
    rw [frees_length, C.len]
theorem inv_uncomp (I : Inv X pins σ H s) (hf : ∀ b ∈ fp, FpOk X pins H b) {σ' : St} {H' : Hp} {s' : Shared} (J : Inv (cxComp X scope N fp s H) [] σ' H' s') : Inv X pins σ H' s' :=
  I.call' (ch := fp) J.os J.base J.hok J.bare fun b hb => ⟨(hf b hb).2.2.2.1, (hf b hb).2.1, (hf b hb).2.2.2.2.1, (hf b hb).2.2.2.2.2⟩
end
def PTs (X : Cx) (ifs : List Expr) (t : TT) : Prop :=
  ∀ (pins : List (Addr × Obj)) (s : Shared) (σ : St) (H : Hp) (Q : Bool → Hp → Prop), Inv X pins σ H s → t σ H Q →
    wpAny (model X.prog X.w) X.A (testsOf ifs X.env) (TP X pins σ Q) X.xe s
def tAlways : TT := fun _ H Q => Q true H
theorem pts_nil {X : Cx} : PTs X [] tAlways := fun _ _ _ H _ I h => wpAny_tests_nil ⟨H, I, h⟩
def CompW (J : It) (g : TG) (tt : TT) (te : TE) (D : Addr) (W : Nat → Nat → List V → St → Hp → Prop) (fin : Hp → Prop) : Prop :=
  ∀ i m ys σ H, W i m ys σ H → H D = some (.lst ys) ∧ ((J.stop i H ∧ fin H) ∨ (J.go i H ∧ ∃ N : List V → St → Hp → Prop, (∀ ys' σ' H', N ys' σ' H' → ∃ m', m' < m ∧ W (i + 1) m' ys' σ' H') ∧
    ∀ x H', J.yld i H x H' → g x σ H' fun σ2 H2 => tt σ2 H2 fun ok H3 =>
      if ok = true then te σ2 H3 fun y H4 => H4 D = some (.lst ys) ∧ ys.length < sizeLine ∧ N (ys ++ [y]) σ2 (upd H4 D (.lst (ys ++ [y]))) else N ys σ2 H3))
abbrev DG := List Addr → Shared → Hp → TG
abbrev DT := List Addr → Shared → Hp → TT
abbrev DE := List Addr → Shared → Hp → TE
def tComp (wi : TI) (fr : List (Option Nat)) (g : DG) (tt : DT) (te : DE) : TE := fun σ H Q => wi σ H fun J H1 => ∀ D fp sx, H1 D = none →
  ∃ W : Nat → Nat → List V → St → Hp → Prop, (∃ m, W 0 m [] (frees fr σ) (upd H1 D (.lst []))) ∧ CompW J (g fp sx (upd H1 D (.lst []))) (tt fp sx (upd H1 D (.lst []))) (te fp sx (upd H1 D (.lst []))) D W (fun H => Q (.ref D) H)
section
variable {X : Cx} {scope : Scope} {N : List Str} {fr : List (Option Nat)} {tg elt iter : Expr} {ifs : List Expr} {pos : Pos} {wi : TI} {g : DG} {tt : DT} {te : DE}
theorem comp_run {pins : List (Addr × Obj)} {σ : St} {s2 : Shared} {it : Addr} {fp : List Addr} {tn : Nat → Heap → Prop} {J : It} {H2 : Hp} {RR : Value → Addr → Result → Shared → Prop} {E : Value → Shared → Prop}
    (hc : X.calm = true) (C : CompOk X scope N fr)
    (hg : ∀ fp s H, PG (cxComp X scope N fp s H) tg (g fp s H)) (ht : ∀ fp s H, PTs (cxComp X scope N fp s H) ifs (tt fp s H)) (he : ∀ fp s H, PE (cxComp X scope N fp s H) elt (te fp s H))
    (I2 : Inv X pins σ H2 s2) (T : Turn X.prog X.w X.K tg J fp it tn) (st2 : tn 0 s2.heap) (f2 : ∀ b ∈ fp, FpOk X pins H2 b) {fin : Addr → Hp → Prop}
    (hW : ∀ D fp sx, H2 D = none → ∃ W : Nat → Nat → List V → St → Hp → Prop, (∃ m, W 0 m [] (frees fr σ) (upd H2 D (.lst []))) ∧ CompW J (g fp sx (upd H2 D (.lst []))) (tt fp sx (upd H2 D (.lst []))) (te fp sx (upd H2 D (.lst []))) D W (fin D))
    (hend : ∀ D Cc s' σ' H' m, Inv X pins σ H' s' → H' Cc = none → Cc ≠ X.env.locals → Cc ∉ X.fs → X.s₀.heap.objs.size ≤ Cc → (∀ x c, X.env.cells.lookup x = some c → c ≠ Cc) → (∀ p ∈ X.pn ++ pins, p.1 ≠ Cc) → s'.heap.Ns Cc m → fin D H' →
      RR (.ref D) Cc (.ok σ') s') :
    wpAny (model X.prog X.w) X.A (newList []) (fun acc s₃ => wpAny (model X.prog X.w) X.A (newFunctionEnv scope X.env.globals (closOf X.env scope.names []) [] X.env.qual none .none (some X.env)) (fun cenv s₄ =>
      codeAny (model X.prog X.w) X.A (.compStart (.ListComp elt [⟨tg, iter, ifs, 0⟩] scope pos) 0 (.ref it) acc { cenv with scope := relabel scope X.env }) (RR acc cenv.locals) s₄) E s₃) E s2 := by
  refine wpAny_newObj_type (wpAny_newFunctionEnv C.nocell (by intro y hy; simp at hy) (fun h₁ hns₁ hsb₁ => ?_) C.kind)
  dsimp only at hns₁ hsb₁ ⊢
  have I3 : Inv X pins σ (upd H2 s2.heap.objs.size (.lst [])) { s2 with heap := s2.heap.push { cls := .type "list", dict := none, data := .seq ([] : List Value).toArray } } :=
    I2.laid (t' := s2.toks) (fun b o e => Heap.get?_push_of_some _ e) (Nat.le_refl _) ⟨Nat.zero_le _, [], 0, .nil, Heap.get?_push_size _ rfl⟩
  have hD : H2 s2.heap.objs.size = none := I2.hok.fresh (Nat.le_refl _)
  obtain ⟨W, ⟨m0, w0⟩, turn⟩ := hW _ fp { s2 with heap := s2.heap.push { cls := .type "list", dict := none, data := .seq ([] : List Value).toArray } } hD
  generalize hDD : s2.heap.objs.size = D at *
  generalize hS3 : ({ s2 with heap := s2.heap.push { cls := .type "list", dict := none, data := .seq ([] : List Value).toArray } } : Shared) = S3 at *
  have hS3h : s2.heap.push { cls := .type "list", dict := none, data := .seq ([] : List Value).toArray } = S3.heap := by rw [← hS3]
  rw [hS3h] at hns₁ hsb₁ ⊢
  have obj2 := T.obj 0 _ st2
  have nD : ∀ b ∈ fp, b ≠ D := fun b hb z => by
    obtain ⟨o, e, _⟩ := obj2 b hb
    have q := Heap.lt_size e
    rw [hDD, z] at q
    exact absurd q (Nat.lt_irrefl _)
  have f3 : ∀ b ∈ fp, FpOk X pins (upd H2 D (.lst [])) b := fun b hb => ⟨by rw [upd_ne (nD b hb)]; exact (f2 b hb).1, (f2 b hb).2⟩
  have ob3 : ∀ b ∈ fp, ∃ o, S3.heap.get? b = some o := fun b hb => by
    obtain ⟨o, e, _⟩ := obj2 b hb
    exact ⟨o, by rw [← hS3h]; exact Heap.get?_push_of_some _ e⟩
  have st3 : tn 0 S3.heap := T.keep _ _ _ st2 fun b hb o e => by rw [← hS3h]; exact Heap.get?_push_of_some _ e
  have hk1 : ∀ b o, S3.heap.get? b = some o → h₁.get? b = some o := fun b o e => hsb₁.extBut b o (Nat.ne_of_lt (Heap.lt_size e)) (Heap.get?_push_of_some _ e)
  have J1 : Inv (cxComp X scope N fp S3 (upd H2 D (.lst []))) [] (frees fr σ) (upd H2 D (.lst [])) { S3 with heap := h₁, toks := s2.toks + ([] : List (Str × Value)).length } := inv_comp C I3 f3 ob3 hns₁ hk1
  have st4 : tn 0 h₁ := T.keep _ _ _ st3 fun b hb o e => hk1 b o e
  have es : ({ s2 with heap := h₁, toks := s2.toks + ([] : List (Str × Value)).length } : Shared) = { S3 with heap := h₁, toks := s2.toks + ([] : List (Str × Value)).length } := by rw [← hS3]
  have FpC : ∀ {H' : Hp}, (∀ b ∈ fp, H' b = none) → ∀ b ∈ fp, FpOk (cxComp X scope N fp S3 (upd H2 D (.lst []))) [] H' b := fun hn b hb =>
    ⟨hn b hb, (J1.ok.exf b hb).1, J1.ok.exfs b hb, .inl hb, (J1.ok.exf b hb).2, fun p hp => absurd (show p ∈ ([] : List (Addr × Obj)) from hp) (by simp)⟩
  have loop : codeAny (model X.prog X.w) X.A (.compLoop (.ListComp elt [⟨tg, iter, ifs, 0⟩] scope pos) 0 (.ref it) (.ref D) (cxComp X scope N fp S3 (upd H2 D (.lst []))).env) (RR (.ref D) S3.heap.objs.size)
      { S3 with heap := h₁, toks := s2.toks + ([] : List (Str × Value)).length } := by
    refine compLoop_gen (fun n s' => ∃ i ys σ' H', Inv (cxComp X scope N fp S3 (upd H2 D (.lst []))) [] σ' H' s' ∧ tn i s'.heap ∧ (∀ b ∈ fp, H' b = none) ∧ W i n ys σ' H') ?_ m0 ⟨0, [], _, _, J1, st4, fun b hb => (f3 b hb).1, w0⟩
    rintro n s5 ⟨i, ys, σ5, H5, J5, st5, fr5, w5⟩
    obtain ⟨hDl, alt⟩ := turn i n ys σ5 H5 w5
    rcases alt with ⟨stop, fi⟩ | ⟨go, NN, hNN, step⟩
    · refine thn (T.done (cxComp X scope N fp S3 (upd H2 D (.lst []))) rfl rfl rfl hc i [] s5 σ5 H5 noE J5 (FpC fr5) st5 stop) fun r s6 ⟨hr, J6⟩ => ?_
      subst hr
      show RR (.ref D) S3.heap.objs.size (.ok .next) s6
      have I6 := inv_uncomp I3 f3 J6
      obtain ⟨mm, hmm, _⟩ := J6.loc
      refine hend D _ s6 _ H5 mm I6 J6.free ?_ ?_ ?_ ?_ ?_ hmm fi
      · exact Nat.ne_of_gt I3.lt
      · exact I3.nofs (Nat.le_refl _)
      · exact I3.sz
      · intro x c e z
        obtain ⟨v, q⟩ := I3.cell x c e
        exact absurd q.lt (by rw [z]; exact Nat.lt_irrefl _)
      · intro p hp z
        exact absurd (Heap.lt_size (I3.pin p hp).1) (by rw [z]; exact Nat.lt_irrefl _)
    · refine thn (T.item (cxComp X scope N fp S3 (upd H2 D (.lst []))) rfl rfl rfl hc i [] s5 σ5 H5 noE J5 (FpC fr5) st5 go) fun r s6 ⟨u, hr, h6⟩ => ?_
      subst hr
      refine thn (Q := _) h6 fun _ s7 ⟨x, H7, J7, r7, y7, st7, fr7⟩ => ?_
      have J7' := J7.pinned (FpC fr7) (T.obj _ _ st7)
      have back : ∀ {σ9 : St} {H9 : Hp} {s9 : Shared}, Inv (cxComp X scope N fp S3 (upd H2 D (.lst []))) ([] ++ pinsAt fp s7.heap) σ9 H9 s9 → tn (i + 1) s9.heap ∧ ∀ b ∈ fp, H9 b = none := fun {σ9 H9 s9} J9 =>
        ⟨T.keep _ _ _ st7 fun b hb o e => (J9.pin (b, o) (List.mem_append_right _ (List.mem_append_right _ (mem_pinsAt hb e)))).1, fun b hb => by
          obtain ⟨o, e, d⟩ := T.obj _ _ st7 b hb
          exact (J9.pin (b, o) (List.mem_append_right _ (List.mem_append_right _ (mem_pinsAt hb e)))).2.1⟩
      refine thn (hg fp S3 _ _ s7 σ5 H7 x u _ J7' r7 (step x H7 y7)) fun _ s8 ⟨σ8, H8, J8, q8⟩ => ?_
      refine thn (ht fp S3 _ _ s8 σ8 H8 _ J8 q8) fun ok s9 ⟨H9, J9, q9⟩ => ?_
      cases ok with
      | false =>
        rw [if_neg Bool.false_ne_true] at q9
        unfold TurnEnd
        rw [if_neg Bool.false_ne_true]
        obtain ⟨m', hm, w9⟩ := hNN _ _ _ q9
        exact ⟨m', hm, i + 1, ys, σ8, H9, J9.unpinned, (back J9).1, (back J9).2, w9⟩
      | true =>
        rw [if_pos rfl] at q9
        unfold TurnEnd
        rw [if_pos rfl]
        refine thn (he fp S3 _ _ s9 σ8 H9 _ J9 q9) fun yv s10 ⟨y, H10, J10, r10, hD10, hz, n10⟩ => ?_
        obtain ⟨m', hm, w10⟩ := hNN _ _ _ n10
        refine thn (mt_append (X := cxComp X scope N fp S3 (upd H2 D (.lst []))) _ s10 σ8 H10 (.ref D) [y] (.ref D) [yv] (fun _ H' => H' = upd H10 D (.lst (ys ++ [y]))) J10 rfl (.cons r10 .nil) ⟨D, ys, y, rfl, rfl, hD10, hz, rfl⟩) fun _ s11 ⟨v11, H11, J11, _, e11⟩ => ?_
        subst e11
        exact ⟨m', hm, i + 1, ys ++ [y], σ8, _, J11.unpinned, (back J11).1, (back J11).2, w10⟩
  rw [es]
  exact codeAny_compStart_list loop (T.self _ 0 _ _ _ st4 loop)
theorem pe_comp {NX : List Str} {outer : Scope} (hc : X.calm = true) (hi : PI X tg iter wi) (C : CompFr X NX outer scope N fr)
    (hg : ∀ fp s H, PG (cxComp X scope N fp s H) tg (g fp s H)) (ht : ∀ fp s H, PTs (cxComp X scope N fp s H) ifs (tt fp s H)) (he : ∀ fp s H, PE (cxComp X scope N fp s H) elt (te fp s H))
    (hs : ∀ x, foldedSetIterable iter X.env x = pure x := by intro _; rfl) : PE X (.ListComp elt [⟨tg, iter, ifs, 0⟩] scope pos) (tComp wi fr g tt te) := by
  intro pins s σ H Q I h
  have C := C.ok I.ok
  rw [eval_ListComp]
  refine wpAny_comprehension_free (use := none) rfl hs C.clos C.kind C.names (thn (hi pins s σ H _ I h) fun v s1 h1 => thn h1 fun itv s2 h2 => ?_)
  obtain ⟨it, fp, tn, J, H2, e, I2, T, st2, f2, hW⟩ := h2
  subst e
  refine comp_run (RR := fun acc Cc => compPost (model X.prog X.w) X.A X.xe none (EP X pins σ Q) acc Cc) hc C hg ht he I2 T st2 f2 hW ?_
  intro D Cc s' fl H' m I' f0 f1 f2' f3 f4 f5 hns fi
  refine ⟨m, hns, fun h' sb => ?_⟩
  exact ⟨.ref D, H', I'.turned (t' := s'.toks) (fun b o hb e => (sb.2 b hb).trans e) f0 f1 (.inr f3) f4 f5, rfl, fi⟩
theorem ps_setComp {NX : List Str} {outer : Scope} {i : Nat} {x : Str} {pos' pos2 : Pos} (hN : X.N.Nodup) (hix : X.N[i]? = some x) (hx : Loc X.env.scope x) (hc : X.calm = true) (hi : PI X tg iter wi) (C : CompFr X NX outer scope N fr)
    (hg : ∀ fp s H, PG (cxComp X scope N fp s H) tg (g fp s H)) (ht : ∀ fp s H, PTs (cxComp X scope N fp s H) ifs (tt fp s H)) (he : ∀ fp s H, PE (cxComp X scope N fp s H) elt (te fp s H))
    (hsw : swapsWith (.ListComp elt [⟨tg, iter, ifs, 0⟩] scope pos) (some (.Name x pos')) pos2.line X.env = pure true := by rfl)
    (hs : ∀ x, foldedSetIterable iter X.env x = pure x := by intro _; rfl) (hf : X.fn x = true ∨ X.env.scope.names.lookup x = some .local := by first | exact .inl rfl | exact .inr rfl | assumption) :
    PS X (.Assign [.Name x pos'] (.ListComp elt [⟨tg, iter, ifs, 0⟩] scope pos) pos2) (tAsg (tComp wi fr g tt te) (gName i)) := by
  intro pins s σ H Dd I h
  have C := C.ok I.ok
  rw [exec_Assign_Name_used _ _ _ _ hsw]
  refine wpAny_bind (wpAny_standAt (wpAny_bind ?_))
  show wpAny _ X.A (do let _ ← comprehension (.ListComp elt [⟨tg, iter, ifs, 0⟩] scope pos) scope X.env _ (newList []) false (eval iter X.env) (some (assign (.Name x pos') X.env))) _ _ s
  refine wpAny_bind (wpAny_mono (wpAny_comprehension_free (use := some (assign (.Name x pos') X.env)) (Q := fun _ s' => SP X pins Dd .next s') rfl hs C.clos C.kind C.names
    (thn (hi pins s σ H _ I h) fun v s1 h1 => thn h1 fun itv s2 h2 => ?_)) (fun _ s' hq => wpAny_pure (wpAny_pure hq)) fun _ _ e => e)
  obtain ⟨it, fp, tn, J, H2, e, I2, T, st2, f2, hW⟩ := h2
  subst e
  refine comp_run (RR := fun acc Cc => compPost (model X.prog X.w) X.A X.xe (some (assign (.Name x pos') X.env)) (fun _ s' => SP X pins Dd .next s') acc Cc) hc C hg ht he I2 T st2 f2 hW ?_
  intro D Cc s' fl H' m I' f0 f1 f2' f3 f4 f5 hns fi
  show wpAny _ X.A (assign (.Name x pos') X.env (.ref D)) _ _ _
  refine wpAny_assign_Name (store_ok2 (v := .ref D) I' hN hix hx rfl (fun s3 I3 ⟨a, sb, ha⟩ => ?_) hf)
  have na : Cc ≠ a := by
    rcases ha with z | z
    · rw [z]; exact f1
    · exact fun q => f4 x a z q.symm
  refine ⟨m, hns.sameBut sb na, fun h' sb' => ?_⟩
  exact ⟨_, H', I3.turned (t' := s3.toks) (fun b o hb e => (sb'.2 b hb).trans e) f0 f1 (.inr f3) f4 f5, fi⟩
end
theorem comp_list {K : PySem.W.Frag} {a D : Addr} {xs : List V} {g : TG} {tt : TT} {te : TE} {fin : Hp → Prop} {σ0 : St} {H0 : Hp} (Pv : Nat → List V → St → Hp → Prop) (h0 : Pv 0 [] σ0 H0)
    (hq : ∀ i ys σ H, i ≤ xs.length → Pv i ys σ H → SqL K H a xs ∧ H D = some (.lst ys))
    (hs : ∀ i x ys σ H, xs[i]? = some x → Pv i ys σ H → g x σ H fun σ2 H2 => tt σ2 H2 fun ok H3 => if ok = true then te σ2 H3 fun y H4 => H4 D = some (.lst ys) ∧ ys.length < sizeLine ∧ Pv (i + 1) (ys ++ [y]) σ2 (upd H4 D (.lst (ys ++ [y]))) else Pv (i + 1) ys σ2 H3)
    (hd : ∀ ys σ H, Pv xs.length ys σ H → fin H) : ∃ W : Nat → Nat → List V → St → Hp → Prop, (∃ m, W 0 m [] σ0 H0) ∧ CompW (Itl K a) g tt te D W fin := by
  refine ⟨fun i m ys σ H => m = xs.length - i ∧ i ≤ xs.length ∧ Pv i ys σ H, ⟨xs.length, by simp, Nat.zero_le _, h0⟩, ?_⟩
  rintro i m ys σ H ⟨rfl, hi, p⟩
  obtain ⟨q, hD⟩ := hq i ys σ H hi p
  refine ⟨hD, ?_⟩
  by_cases hlt : i < xs.length
  · refine .inr ⟨⟨xs, xs[i], q, by simp [hlt]⟩, Pv (i + 1), fun ys' σ' H' p' => ⟨xs.length - (i + 1), by omega, rfl, hlt, p'⟩, fun x H' y => ?_⟩
    obtain ⟨e, y⟩ := y
    subst e
    exact hs i x ys σ _ (y xs q) p
  · have e : i = xs.length := by omega
    subst e
    exact .inl ⟨⟨xs, q, Nat.le_refl _⟩, hd ys σ H p⟩
theorem comp_range {lo : Int} {n : Nat} {D : Addr} {g : TG} {tt : TT} {te : TE} {fin : Hp → Prop} {σ0 : St} {H0 : Hp} (Pv : Nat → List V → St → Hp → Prop) (h0 : Pv 0 [] σ0 H0)
    (hq : ∀ i ys σ H, i ≤ n → Pv i ys σ H → H D = some (.lst ys))
    (hs : ∀ i ys σ H, i < n → Pv i ys σ H → g (.int (lo + i)) σ H fun σ2 H2 => tt σ2 H2 fun ok H3 => if ok = true then te σ2 H3 fun y H4 => H4 D = some (.lst ys) ∧ ys.length < sizeLine ∧ Pv (i + 1) (ys ++ [y]) σ2 (upd H4 D (.lst (ys ++ [y]))) else Pv (i + 1) ys σ2 H3)
    (hd : ∀ ys σ H, Pv n ys σ H → fin H) : ∃ W : Nat → Nat → List V → St → Hp → Prop, (∃ m, W 0 m [] σ0 H0) ∧ CompW (Itr lo n) g tt te D W fin := by
  refine ⟨fun i m ys σ H => m = n - i ∧ i ≤ n ∧ Pv i ys σ H, ⟨n, by simp, Nat.zero_le _, h0⟩, ?_⟩
  rintro i m ys σ H ⟨rfl, hi, p⟩
  refine ⟨hq i ys σ H hi p, ?_⟩
  by_cases hlt : i < n
  · refine .inr ⟨hlt, Pv (i + 1), fun ys' σ' H' p' => ⟨n - (i + 1), by omega, rfl, hlt, p'⟩, fun x H' y => ?_⟩
    obtain ⟨e, y⟩ := y
    subst e y
    exact hs i ys σ _ hlt p
  · have e : i = n := by omega
    subst e
    exact .inl ⟨Nat.le_refl _, hd ys σ H p⟩
end L2
set_option linter.all false
namespace SetM
open PySem
def Ris (xs : Array Nat) : Prop := ∀ a b (h : a < b) (hb : b < xs.size), xs[a]'(Nat.lt_trans h hb) < xs[b]
theorem getD_in {xs : Array Nat} {i d : Nat} (h : i < xs.size) : xs.getD i d = xs[i] := by simp [Array.getD, h]
theorem go_spec {xs : Array Nat} {j : Nat} (hr : Ris xs) : ∀ (fuel lo hi : Nat), hi - lo ≤ fuel → lo ≤ hi → hi ≤ xs.size → (∀ i (h : i < xs.size), i < lo → xs[i] < j) → (∀ i (h : i < xs.size), hi ≤ i → j ≤ xs[i]) →
    (∀ i (h : i < xs.size), i < SetTable.below.go xs j fuel lo hi → xs[i] < j) ∧ (∀ i (h : i < xs.size), SetTable.below.go xs j fuel lo hi ≤ i → j ≤ xs[i]) ∧ SetTable.below.go xs j fuel lo hi ≤ xs.size
  | 0, lo, hi, hf, hl, hs, h1, h2 => by
    have e : lo = hi := by omega
    subst e
    simp only [SetTable.below.go]
    exact ⟨h1, h2, hs⟩
  | fuel + 1, lo, hi, hf, hl, hs, h1, h2 => by
    simp only [SetTable.below.go]
    by_cases h : lo < hi
    · rw [if_pos h]
      have hm : (lo + hi) / 2 < xs.size := by omega
      rw [getD_in hm]
      by_cases hc : xs[(lo + hi) / 2] < j
      · rw [if_pos hc]
        refine go_spec hr fuel _ _ (by omega) (by omega) hs (fun i hi' hlt => ?_) h2
        rcases Nat.lt_or_ge i ((lo + hi) / 2) with z | z
        · exact Nat.lt_trans (hr i _ z hm) hc
        · have e : i = (lo + hi) / 2 := by omega
          subst e; exact hc
      · rw [if_neg hc]
        refine go_spec hr fuel _ _ (by omega) (by omega) (by omega) h1 (fun i hi' hle => ?_)
        rcases Nat.lt_or_ge ((lo + hi) / 2) i with z | z
        · have := hr _ i z hi'; omega
        · have e : i = (lo + hi) / 2 := by omega
          subst e; omega
    · rw [if_neg h]
      have e : lo = hi := by omega
      subst e
      exact ⟨h1, h2, hs⟩
theorem below_spec {xs : Array Nat} {j : Nat} (hr : Ris xs) : (∀ i (h : i < xs.size), i < SetTable.below xs j → xs[i] < j) ∧ (∀ i (h : i < xs.size), SetTable.below xs j ≤ i → j ≤ xs[i]) ∧ SetTable.below xs j ≤ xs.size :=
  go_spec hr xs.size 0 xs.size (by omega) (by omega) (Nat.le_refl _) (fun i _ h => by omega) (fun i h h' => by omega)
theorem below_next {xs : Array Nat} (hr : Ris xs) {i : Nat} (h : i < xs.size) : SetTable.below xs (xs[i] + 1) = i + 1 := by
  obtain ⟨h1, h2, h3⟩ := below_spec (j := xs[i] + 1) hr
  rcases Nat.lt_trichotomy (SetTable.below xs (xs[i] + 1)) (i + 1) with z | z | z
  · have := h2 i h (by omega); omega
  · exact z
  · have hi : i + 1 < xs.size := by omega
    have := h1 (i + 1) hi z
    have := hr i (i + 1) (by omega) hi
    omega
theorem below_zero {xs : Array Nat} (hr : Ris xs) : SetTable.below xs 0 = 0 := by
  obtain ⟨h1, h2, h3⟩ := below_spec (j := 0) hr
  rcases Nat.eq_zero_or_pos (SetTable.below xs 0) with z | z
  · exact z
  · have := h1 0 (by omega) z; omega
theorem ris_range (n : Nat) : Ris (Array.range n) := fun a b h hb => by simp; omega
theorem insert_get {xs : Array Nat} {p j : Nat} (hp : p ≤ xs.size) : ∀ i, (SetTable.insertAt xs p j)[i]? = if i < p then xs[i]? else if i = p then some j else xs[i - 1]? := by
  intro i
  unfold SetTable.insertAt
  have hs1 : ((xs.extract 0 p).push j).size = p + 1 := by simp; omega
  rw [Array.getElem?_append, hs1]
  by_cases h1 : i < p + 1
  · rw [if_pos h1, Array.getElem?_push]
    have hs2 : (xs.extract 0 p).size = p := by simp; omega
    rw [hs2]
    by_cases h2 : i = p
    · rw [if_pos h2, if_neg (by omega), if_pos h2]
    · rw [if_neg h2, if_pos (by omega)]
      rw [Array.getElem?_extract]
      simp
      omega
  · rw [if_neg h1, if_neg (by omega), if_neg (by omega)]
    rw [Array.getElem?_extract]
    have e : p + (i - (p + 1)) = i - 1 := by omega
    rw [e]
    simp
    intro h
    omega
theorem insert_size {α : Type} {xs : Array α} {p : Nat} {j : α} (hp : p ≤ xs.size) : (SetTable.insertAt xs p j).size = xs.size + 1 := by
  unfold SetTable.insertAt
  simp
  omega
theorem ris_put {xs : Array Nat} {j : Nat} (hr : Ris xs) (hn : xs[SetTable.below xs j]? ≠ some j) : Ris (SetTable.insertAt xs (SetTable.below xs j) j) := by
  obtain ⟨h1, h2, h3⟩ := below_spec (j := j) hr
  generalize hk : SetTable.below xs j = k at h1 h2 h3 hn
  have g := insert_get (xs := xs) (j := j) h3
  intro a b hab hb
  rw [insert_size h3] at hb
  have ga := g a
  have gb := g b
  have ha' : a < (SetTable.insertAt xs k j).size := by rw [insert_size h3]; omega
  have hb' : b < (SetTable.insertAt xs k j).size := by rw [insert_size h3]; omega
  rw [Array.getElem?_eq_getElem ha'] at ga
  rw [Array.getElem?_eq_getElem hb'] at gb
  have strict : ∀ i (h : i < xs.size), k ≤ i → j < xs[i] := fun i h hk' => by
    have hle := h2 i h hk'
    rcases Nat.lt_or_ge k i with z | z
    · have hkz : k < xs.size := by omega
      have := hr k i z h
      have := h2 k hkz (Nat.le_refl _)
      omega
    · have e : i = k := by omega
      subst e
      rw [Array.getElem?_eq_getElem h] at hn
      have : xs[i] ≠ j := fun q => hn (by rw [q])
      omega
  by_cases a1 : a < k
  · rw [if_pos a1, Array.getElem?_eq_getElem (by omega)] at ga
    have ga' := Option.some.inj ga
    by_cases b1 : b < k
    · rw [if_pos b1, Array.getElem?_eq_getElem (by omega)] at gb
      have gb' := Option.some.inj gb
      rw [ga', gb']
      exact hr a b hab (by omega)
    · rw [if_neg b1] at gb
      by_cases b2 : b = k
      · rw [if_pos b2] at gb
        have gb' := Option.some.inj gb
        rw [ga', gb']
        exact h1 a (by omega) a1
      · rw [if_neg b2, Array.getElem?_eq_getElem (by omega)] at gb
        have gb' := Option.some.inj gb
        rw [ga', gb']
        exact hr a (b - 1) (by omega) (by omega)
  · rw [if_neg a1] at ga
    rw [if_neg (by omega), if_neg (by omega), Array.getElem?_eq_getElem (by omega)] at gb
    have gb' := Option.some.inj gb
    by_cases a2 : a = k
    · rw [if_pos a2] at ga
      have ga' := Option.some.inj ga
      rw [ga', gb']
      exact strict (b - 1) (by omega) (by omega)
    · rw [if_neg a2, Array.getElem?_eq_getElem (by omega)] at ga
      have ga' := Option.some.inj ga
      rw [ga', gb']
      exact hr (a - 1) (b - 1) (by omega) (by omega)
end SetM
namespace SetM
open PySem
structure TabI (t : SetTable) (n : Nat) : Prop where
  size : t.place.size = n
  dum : t.dummies = #[]
  ris : Ris t.place
  room : n ≤ t.mask
theorem TabI.fits {t : SetTable} {n : Nat} (h : TabI t n) : t.fits n = true := by
  unfold SetTable.fits SetTable.fill
  rw [h.dum, h.size]
  simp
  exact h.room
theorem tab_fresh (f m : Nat) (led : Bool) : TabI (SetTable.fresh f m led) 0 := ⟨rfl, rfl, fun a b _ hb => by simp [SetTable.fresh] at hb, Nat.zero_le _⟩
theorem tab_standIn (t : SetTable) (n : Nat) : TabI (t.standIn n) n := ⟨by simp [SetTable.standIn], rfl, ris_range n, by simp [SetTable.standIn]; omega⟩
theorem has_nil (j : Nat) : SetTable.has #[] j = false := by simp [SetTable.has]
theorem tab_orStandIn {t : SetTable} {n : Nat} (hs : t.place.size = n) (hd : t.dummies = #[]) (hr : Ris t.place) : TabI (t.orStandIn n) n := by
  unfold SetTable.orStandIn
  split
  · rename_i h
    refine ⟨hs, hd, hr, ?_⟩
    unfold SetTable.fits SetTable.fill at h
    rw [hd, hs] at h
    simpa using h
  · exact tab_standIn t n
theorem probe_empty {t : SetTable} (hd : t.dummies = #[]) {f : Nat → Int} {h : Int} {j : Nat} {dm : Option Nat} : ∀ (fuel : Nat) (p : SetTable.Probe), p.dummy = none → SetTable.probe.go t f h fuel p = some (.empty j dm) → dm = none ∧ t.place[SetTable.below t.place j]? ≠ some j
  | 0, p, _, e => by simp [SetTable.probe.go] at e
  | fuel + 1, p, hp, e => by
    have adv : (t.advance p).dummy = none := by
      unfold SetTable.advance
      split
      · exact hp
      · exact hp
    simp only [SetTable.probe.go] at e
    cases hs : t.slot p.j with
    | empty =>
      rw [hs] at e
      simp only [Option.some.injEq, SetTable.Met.empty.injEq] at e
      obtain ⟨e1, e2⟩ := e
      subst e1
      refine ⟨by rw [← e2, hp], fun q => ?_⟩
      unfold SetTable.slot at hs
      simp [q] at hs
    | dummy =>
      exfalso
      unfold SetTable.slot at hs
      simp only [hd, has_nil] at hs
      split at hs <;> simp at hs
    | live i =>
      rw [hs] at e
      simp only at e
      split at e
      · simp at e
      · exact probe_empty hd fuel _ adv e
theorem tab_layNew {t : SetTable} {es : Array (Int × Value)} (h : TabI t es.size) (k : Int) (x : Value) : TabI (layNew t es k x).2.1 (layNew t es k x).1.size := by
  unfold layNew
  cases hf : t.freeSlot k with
  | none =>
    simp only
    have : (es.push (k, x)).size = es.size + 1 := by simp
    rw [this]
    exact tab_standIn t _
  | some sw =>
    obtain ⟨slot, wd⟩ := sw
    simp only
    unfold SetTable.freeSlot at hf
    have hn : t.place[SetTable.below t.place slot]? ≠ some slot := by
      cases hp : t.probe (fun _ => k + 1) k (t.probeStart k) with
      | none => rw [hp] at hf; simp at hf
      | some m =>
        rw [hp] at hf
        cases m with
        | candidate a b c => simp at hf
        | empty j dm =>
          obtain ⟨e1, e2⟩ := probe_empty h.dum _ (t.probeStart k) rfl hp
          subst e1
          simp at hf
          rw [← hf.1]
          exact e2
    obtain ⟨_, _, hb⟩ := below_spec (j := slot) h.ris
    have hb' : SetTable.below t.place slot ≤ es.size := by rw [← h.size]; exact hb
    have e1 : (t.put slot).2 = SetTable.below t.place slot := rfl
    refine tab_orStandIn ?_ ?_ ?_
    · rw [e1, insert_size hb']
      show (SetTable.insertAt t.place (SetTable.below t.place slot) slot).size = es.size + 1
      rw [insert_size hb, h.size]
    · show (if SetTable.has t.dummies slot then _ else t.dummies) = #[]
      rw [h.dum, has_nil]
      rfl
    · exact ris_put h.ris hn
theorem layNew_led {t : SetTable} {es : Array (Int × Value)} (k : Int) (x : Value) : (layNew t es k x).2.1.led = t.led := by
  unfold layNew
  split
  · simp only [SetTable.orStandIn]
    split <;> rfl
  · rfl
theorem range_live (n : Nat) (g : Nat → Option Nat) : ((List.range n).filterMap fun j => (g j).map (j, ·)).Pairwise fun a b => a.1 < b.1 := by
  rw [List.pairwise_filterMap]
  refine List.Pairwise.imp ?_ List.pairwise_lt_range
  intro a b hab c hc d hd
  cases ha : g a with
  | none => rw [ha] at hc; simp at hc
  | some u =>
    cases hb : g b with
    | none => rw [hb] at hd; simp at hd
    | some v =>
      rw [ha] at hc
      rw [hb] at hd
      simp at hc hd
      rw [← hc, ← hd]
      exact hab
theorem tab_relayAll {t : SetTable} {es : Array (Int × Value)} (wanted : Nat) : TabI (relayAll t es wanted).2.1 (relayAll t es wanted).1.size := by
  unfold relayAll
  cases hr : t.relaid (es.map (·.1)) wanted with
  | none => exact tab_standIn t _
  | some to =>
    obtain ⟨t', order⟩ := to
    simp only
    split
    · rename_i hc
      unfold SetTable.relaid SetTable.laid at hr
      cases hl : SetTable.layClean (SetTable.sizeAbove wanted - 1) (es.map (·.1)) with
      | none => rw [hl] at hr; simp at hr
      | some owner =>
        rw [hl] at hr
        simp at hr
        obtain ⟨h1, h2⟩ := hr
        have hfit := (Bool.and_eq_true_iff.mp hc).2
        have hd : t'.dummies = #[] := by rw [← h1]
        refine ⟨?_, hd, ?_, ?_⟩
        · unfold SetTable.fits at hfit
          simp at hfit
          exact hfit.1
        · rw [← h1]
          intro a b hab hb
          have hp := range_live (SetTable.sizeAbove wanted - 1 + 1) (fun j => owner[j]?.getD none)
          have hp2 : (((List.range (SetTable.sizeAbove wanted - 1 + 1)).filterMap fun j => (owner[j]?.getD none).map (j, ·)).map fun p => p.1).Pairwise (· < ·) := List.pairwise_map.mpr hp
          simp only [List.getElem_toArray]
          exact List.pairwise_iff_getElem.mp hp2 a b _ _ hab
        · unfold SetTable.fits SetTable.fill at hfit
          rw [hd] at hfit
          simp at hfit
          exact (hfit.1 ▸ hfit.2 : _)
    · exact tab_standIn t _
theorem relayAll_led {t : SetTable} {es : Array (Int × Value)} (wanted : Nat) : (relayAll t es wanted).2.1.led = t.led := by
  unfold relayAll
  cases hr : t.relaid (es.map (·.1)) wanted with
  | none => rfl
  | some to =>
    obtain ⟨t', order⟩ := to
    simp only
    split
    · unfold SetTable.relaid SetTable.laid at hr
      cases hl : SetTable.layClean (SetTable.sizeAbove wanted - 1) (es.map (·.1)) with
      | none => rw [hl] at hr; simp at hr
      | some owner =>
        rw [hl] at hr
        simp at hr
        rw [← hr.1]
    · rfl
end SetM
set_option linter.all false
set_option maxRecDepth 100000
namespace SetM
open PySem
theorem paired_perm {α β : Type} {F : α → β → Prop} {l l' : List β} (p : l'.Perm l) : ∀ {ks : List α}, Paired F ks l → ∃ ks', Paired F ks' l' ∧ ks'.Perm ks := by
  induction p with
  | nil => intro ks h; cases h; exact ⟨[], .nil, .nil⟩
  | cons x p ih =>
    intro ks h
    cases h with
    | cons r t =>
      obtain ⟨ks', h1, h2⟩ := ih t
      exact ⟨_ :: ks', .cons r h1, h2.cons _⟩
  | swap x y l =>
    intro ks h
    cases h with
    | cons r t =>
      cases t with
      | cons r' t' => exact ⟨_ :: _ :: _, .cons r' (.cons r t'), .swap _ _ _⟩
  | trans p1 p2 ih1 ih2 =>
    intro ks h
    obtain ⟨k1, h1, h2⟩ := ih2 h
    obtain ⟨k2, h3, h4⟩ := ih1 h1
    exact ⟨k2, h3, h4.trans h2⟩
theorem paired_mem {α β : Type} {F : α → β → Prop} : ∀ {ks : List α} {l : List β}, Paired F ks l → ∀ k ∈ ks, ∃ e ∈ l, F k e
  | _, _, .nil, k, h => by cases h
  | _, _, .cons r t, k, h => by
    rcases List.mem_cons.mp h with z | z
    · subst z; exact ⟨_, List.mem_cons_self, r⟩
    · obtain ⟨e, h1, h2⟩ := paired_mem t k z
      exact ⟨e, List.mem_cons_of_mem _ h1, h2⟩
theorem paired_mem' {α β : Type} {F : α → β → Prop} : ∀ {ks : List α} {l : List β}, Paired F ks l → ∀ e ∈ l, ∃ k ∈ ks, F k e
  | _, _, .nil, k, h => by cases h
  | _, _, .cons r t, k, h => by
    rcases List.mem_cons.mp h with z | z
    · subst z; exact ⟨_, List.mem_cons_self, r⟩
    · obtain ⟨e, h1, h2⟩ := paired_mem' t k z
      exact ⟨e, List.mem_cons_of_mem _ h1, h2⟩
section
variable {prog : Program} {w : World} {K : Type} [DecidableEq K] (knd : KeyKind prog w K)
structure SetO (o : Obj) (ks : List K) : Prop where
  ex : o.ExactSet
  dat : ∃ es ep t, o.data = .set es ep t ∧ ElemsOf knd es.toList ∧ Paired (fun k (e : Int × Value) => knd.is k e.2 = true) ks es.toList ∧ es.size < scanBound ∧ TabI t es.size ∧ t.led = !(w.params.followText "set-order")
  nd : ks.Nodup
def SetG (h : Heap) (a : Addr) (ks : List K) : Prop := ∃ o, h.get? a = some o ∧ SetO knd o ks
variable {knd} {A : Around} {E : Value → Shared → Prop} {s : Shared} {a : Addr}
theorem SetO.len {o : Obj} {ks : List K} (h : SetO knd o ks) : ks.length < scanBound := by
  obtain ⟨es, ep, t, _, _, p, b, _⟩ := h.dat
  rw [p.length, Array.length_toList]
  exact b
theorem store_back {o : Obj} {es es' : Array (Int × Value)} {ep : Nat} {t t' : SetTable} {ks' : List K} {h : Heap} (ho : h.get? a = some o) (hex : o.ExactSet) (hd : o.data = .set es ep t) (el : ElemsOf knd es'.toList)
    (pr : Paired (fun k (e : Int × Value) => knd.is k e.2 = true) ks' es'.toList) (hb : es'.size < scanBound) (ti : TabI t' es'.size) (hl : t'.led = !(w.params.followText "set-order")) (nd : ks'.Nodup) :
    (h.update a (Obj.putSet es' t')).get? a = some { o with data := .set es' (ep + 1) t' } ∧ SetO knd { o with data := .set es' (ep + 1) t' } ks' := by
  have mem : ∀ k', (decide (k' ∈ ks')) = true ↔ ∃ e ∈ es'.toList, knd.is k' e.2 = true := fun k' => by
    rw [decide_eq_true_eq]
    constructor
    · exact fun hk => paired_mem pr k' hk
    · rintro ⟨e, he, hq⟩
      obtain ⟨k2, h1, h2⟩ := paired_mem' pr e he
      rw [knd.inj e.2 k' k2 hq h2]
      exact h1
  obtain ⟨e1, o2, es2, ep2, t2, e2, ex2, d2, _⟩ := SetOf_store (knd := knd) ho hex hd el mem hb ti.fits
  rw [e1] at e2
  cases e2
  exact ⟨e1, ⟨ex2, ⟨es', ep + 1, t', rfl, el, pr, hb, ti, hl⟩, nd⟩⟩
theorem set_add {ks : List K} {k : K} {x : Value} {Q : Bool → Shared → Prop} (hkey : knd.is k x = true) (hsc : x.scannable = true) (hS : SetG knd s.heap a ks) (hroom : ks.length + 1 < scanBound)
    (h : ∀ h' ks', Heap.SameBut a s.heap h' → SetG knd h' a ks' → ks'.Perm (if k ∈ ks then ks else ks ++ [k]) → Q (!decide (k ∈ ks)) { s with heap := h' }) :
    wpAny (model prog w) A (setAddHashed a x (knd.hash k)) Q E s := by
  obtain ⟨o, ho, S⟩ := hS
  obtain ⟨es, ep, t, hd, hel, pr, hb, ti, hled⟩ := S.dat
  have hlen : ks.length = es.size := by rw [pr.length, Array.length_toList]
  unfold setAddHashed setAddHashedIn
  refine wpAny_holding (wpAny_bind (wpAny_setState_of ho hd ti.fits ?_))
  dsimp only
  rw [byScan_of hsc hb hel]
  simp only [↓reduceIte]
  unfold setAddByScan
  refine wpAny_bind (wpAny_bind (wpAny_rule (wpAny_bind (wpAny_setScan_of hkey ho hd ti.fits hel ?_))))
  cases hr : List.findIdx? (fun e => knd.is k e.2) es.toList with
  | some j =>
    dsimp only
    obtain ⟨hj, hpj, _⟩ := List.findIdx?_eq_some_iff_getElem.mp hr
    have hk : k ∈ ks := by
      obtain ⟨k2, h1, h2⟩ := paired_mem' pr _ (List.getElem_mem hj)
      rw [knd.inj _ k k2 hpj h2]
      exact h1
    have q := h s.heap ks (Heap.SameBut.refl a s.heap) ⟨o, ho, S⟩ (by rw [if_pos hk])
    rw [decide_eq_true hk] at q
    exact wpAny_pure (wpAny_pure q)
  | none =>
    dsimp only
    have hk : k ∉ ks := fun hm => by
      obtain ⟨e, he, hq⟩ := paired_mem pr k hm
      have z := List.findIdx?_eq_none_iff.mp hr e he
      rw [hq] at z
      cases z
    have gw : ∀ (b : Bool) {s₁ : Shared} {Q' : Unit → Shared → Prop}, Q' () s₁ → wpAny (model prog w) A (match b with | true => rule "set.scan.the-table-gave-way" | false => pure ()) Q' E s₁ :=
      fun b s₁ Q' hq => by cases b <;> first | exact wpAny_pure hq | exact wpAny_rule hq
    have perm0 := layNew_perm t es (knd.hash k) x
    have tab1 := tab_layNew (t := t) ti (knd.hash k) x
    have led1 := layNew_led (t := t) (es := es) (knd.hash k) x
    generalize hL : layNew t es (knd.hash k) x = L at perm0 tab1 led1 ⊢
    obtain ⟨es1, t1, wasDummy, gave⟩ := L
    dsimp only at perm0 tab1 led1 ⊢
    rw [Array.toList_push] at perm0
    have el1 : ElemsOf knd es1.toList := (hel.push hkey hsc).perm perm0
    have pr0 : Paired (fun k (e : Int × Value) => knd.is k e.2 = true) (ks ++ [k]) (es.toList ++ [(knd.hash k, x)]) := Paired.snoc pr hkey
    obtain ⟨ks1, pr1, pk1⟩ := paired_perm perm0 pr0
    have nd1 : ks1.Nodup := pk1.nodup_iff.mpr (List.nodup_append.mpr ⟨S.nd, List.nodup_cons.mpr ⟨by simp, List.nodup_nil⟩, fun u hu v hv => by
      rw [List.mem_singleton.mp hv]; exact fun z => hk (z ▸ hu)⟩)
    have sz1 : es1.size = es.size + 1 := by
      have := perm0.length_eq
      rw [List.length_append, Array.length_toList, Array.length_toList] at this
      simpa using this
    have hb1 : es1.size < scanBound := by omega
    refine wpAny_bind (gw _ ?_)
    have tailOk : ∀ t2 : SetTable, TabI t2 es1.size → t2.led = t.led → wpAny (model prog w) A (do
        storeSet a es1 t2
        if (!wasDummy && t2.tooFull) = true then do
            (match (relayAll t2 es1 (SetTable.grown es1.size)).2.2 with | true => rule "set.scan.the-table-gave-way" | false => pure ())
            storeSet a (relayAll t2 es1 (SetTable.grown es1.size)).1 (relayAll t2 es1 (SetTable.grown es1.size)).2.1
            pure (some true)
          else pure (some true)) (fun b s' => b = some true ∧ ∃ h' ks', s' = { s with heap := h' } ∧ Heap.SameBut a s.heap h' ∧ SetG knd h' a ks' ∧ ks'.Perm (ks ++ [k])) E s := by
      intro t2 ti2 hl2
      refine wpAny_bind (wpAny_storeSet_of ho hd ?_ (fits_of_scanBound hb1))
      obtain ⟨g1, S1⟩ := store_back (knd := knd) ho S.ex hd el1 pr1 hb1 ti2 (hl2.trans hled) nd1
      have sb1 := Heap.SameBut.update s.heap a (Obj.putSet es1 t2)
      split
      · have hp := relayAll_perm t2 es1 (SetTable.grown es1.size)
        have ti3 := tab_relayAll (t := t2) (es := es1) (SetTable.grown es1.size)
        have led3 := relayAll_led (t := t2) (es := es1) (SetTable.grown es1.size)
        generalize relayAll t2 es1 (SetTable.grown es1.size) = Rl at hp ti3 led3 ⊢
        obtain ⟨es2, t3, gave2⟩ := Rl
        dsimp only at hp ti3 led3 ⊢
        obtain ⟨ks2, pr2, pk2⟩ := paired_perm hp pr1
        have sz2 : es2.size = es1.size := by
          have := hp.length_eq
          rwa [Array.length_toList, Array.length_toList] at this
        have hb2 : es2.size < scanBound := by omega
        refine wpAny_bind (gw _ ?_)
        refine wpAny_bind (wpAny_storeSet_of g1 rfl ?_ (fits_of_scanBound hb2))
        obtain ⟨g2, S2⟩ := store_back (knd := knd) g1 S1.ex rfl (el1.perm hp) pr2 hb2 ti3 (led3.trans (hl2.trans hled)) (pk2.nodup_iff.mpr nd1)
        exact wpAny_pure ⟨rfl, _, ks2, rfl, sb1.trans (Heap.SameBut.update _ a _), ⟨_, g2, S2⟩, pk2.trans pk1⟩
      · exact wpAny_pure ⟨rfl, _, ks1, rfl, sb1, ⟨_, g1, S1⟩, pk1⟩
    have fin : ∀ b s', (b = some true ∧ ∃ h' ks', s' = { s with heap := h' } ∧ Heap.SameBut a s.heap h' ∧ SetG knd h' a ks' ∧ ks'.Perm (ks ++ [k])) →
        wpAny (model prog w) A (match b with | some added => pure added | none => setAddHashedIn a x (knd.hash k) 99999) Q E s' := by
      rintro b s' ⟨rfl, h', ks', rfl, sb, g, pk⟩
      have q := h h' ks' sb g (by rw [if_neg hk]; exact pk)
      rw [decide_eq_false hk] at q
      exact wpAny_pure q
    split
    · refine wpAny_bind ?_
      rw [hashByValue_scannable 8 hsc]
      refine wpAny_pure ?_
      refine wpAny_mono (tailOk _ ?_ ?_) fin fun _ _ z => z
      · split
        · exact tab1
        · exact ⟨tab1.size, tab1.dum, tab1.ris, tab1.room⟩
      · split
        · exact led1
        · exact led1
    · refine wpAny_bind (wpAny_pure ?_)
      simp only [↓reduceIte]
      exact wpAny_mono (tailOk _ tab1 led1) fin fun _ _ z => z
end
end SetM
set_option linter.all false
set_option maxRecDepth 100000
namespace SetM
open PySem PyProof.Rows
section
variable {prog : Program} {w : World} {K : Type} [DecidableEq K] {knd : KeyKind prog w K}
theorem SetG.at' {h h' : Heap} {a : Addr} {ks : List K} (x : SetG knd h a ks) (e : ∀ o, h.get? a = some o → h'.get? a = some o) : SetG knd h' a ks := let ⟨o, ho, S⟩ := x; ⟨o, e o ho, S⟩
structure Upto (val : Nat → K) (i : Nat) (ks : List K) : Prop where
  mem : ∀ x, x ∈ ks ↔ ∃ j, j < i ∧ val j = x
  len : ks.length ≤ i
theorem Upto.zero (val : Nat → K) : Upto val 0 [] := ⟨fun x => ⟨fun z => absurd z List.not_mem_nil, fun ⟨j, z, _⟩ => absurd z (Nat.not_lt_zero _)⟩, Nat.le_refl _⟩
theorem Upto.next {val : Nat → K} {i : Nat} {ks ks' : List K} (u : Upto val i ks) (pk : ks'.Perm (if val i ∈ ks then ks else ks ++ [val i])) : Upto val (i + 1) ks' := by
  refine ⟨fun x => ?_, ?_⟩
  · rw [pk.mem_iff]
    constructor
    · intro hx
      have hx' : x ∈ ks ∨ x = val i := by
        split at hx
        · exact .inl hx
        · rcases List.mem_append.mp hx with hx | hx
          · exact .inl hx
          · exact .inr (List.mem_singleton.mp hx)
      rcases hx' with hx' | hx'
      · obtain ⟨j, h1, h2⟩ := (u.mem x).mp hx'
        exact ⟨j, by omega, h2⟩
      · exact ⟨i, by omega, hx'.symm⟩
    · rintro ⟨j, h1, h2⟩
      by_cases hx : x ∈ ks
      · split
        · exact hx
        · exact List.mem_append_left _ hx
      · have e : j = i := by
          rcases Nat.lt_or_ge j i with z | z
          · exact absurd ((u.mem x).mpr ⟨j, z, h2⟩) hx
          · omega
        subst e
        rw [h2, if_neg hx]
        exact List.mem_append_right _ (List.mem_singleton_self _)
  · rw [pk.length_eq]
    have := u.len
    split
    · omega
    · simp only [List.length_append, List.length_singleton]
      omega
variable {A : Around} {R : Result → Shared → Prop} {I : Addr} {fp wr : List Addr} {G : Array GenState → Array GenState → Prop} {n : Nat} {P : Nat → Value → Prop} {St : Nat → Shared → Prop}
theorem fill_loop (W : WalksS prog w A.in1 I fp wr G n P St) {a : Addr} (na : a ∉ fp) {val : Nat → K} (hval : ∀ i v, P i v → knd.is (val i) v = true ∧ v.scannable = true) (hb : n + 1 < scanBound) (i : Nat) (s : Shared) (ks : List K)
    (hi : i ≤ n) (st : St i s) (hS : SetG knd s.heap a ks) (u : Upto val i ks) (fin : ∀ s' ks', Moved (a :: wr) G s s' → SetG knd s'.heap a ks' → Upto val n ks' → R (.ok (.ret .none)) s') :
    codeAny (model prog w) A (.builtin "set.update.loop" ⟨[.ref a, .ref I], []⟩) R s := by
  have naw : a ∉ wr := fun z => na (W.sub _ z)
  have more : ∀ b ∈ wr, b ∈ a :: wr := fun b z => List.mem_cons_of_mem _ z
  refine codeAny_builtin PyProof.Rows.F.entry_set_update_loop ?_
  rw [Around.under_plainId PyProof.Rows.F.plain_set_update_loop]
  refine wpAny_bind (m := pyNext (.ref I)) ?_
  by_cases hlt : i < n
  · refine W.item i s _ _ hlt st fun v s1 hP st1 mv => ?_
    obtain ⟨hv, hsc⟩ := hval i v hP
    have hS1 : SetG knd s1.heap a ks := hS.at' fun o e => mv.heap a o naw e
    refine wpAny_bind (m := holding [v] (setAdd a v)) (wpAny_holding ?_)
    unfold setAdd
    refine wpAny_holding (wpAny_bind (knd.pyHash (k := val i) hv ?_))
    have := u.len
    refine set_add (knd := knd) (s := { s1 with toks := s1.toks + 1 }) hv hsc hS1 (by omega) fun h2 ks2 sb hS2 pk => wpAny_pure ⟨plainId_quiet PyProof.Rows.F.plain_set_update_loop _, ?_⟩
    refine fill_loop W na hval hb (i + 1) { s1 with heap := h2, toks := s1.toks + 1 } ks2 hlt (W.frame _ s1 _ _ st1 (Nat.le_succ _) fun b hb' o e => ?_) hS2 (u.next pk) fun s3 ks3 mv3 hS3 u3 => ?_
    · rw [sb.2 b fun z => na (z ▸ hb')]
      exact e
    · refine fin s3 ks3 (Moved.trans W.gtrans ((mv.mono more).then_heap (Nat.le_succ _) fun b o hb' e => ?_) mv3) hS3 u3
      rw [sb.2 b fun z => hb' (z ▸ List.mem_cons_self)]
      exact e
  · have e : i = n := by omega
    subst e
    exact W.done s _ _ st fun s1 mv => wpAny_pure (fin s1 ks (mv.mono more) (hS.at' fun o e => mv.heap a o naw e) u)
termination_by n - i
end
section
variable {prog : Program} {w : World} {A : Around} {E : Value → Shared → Prop} {s : Shared}
theorem call_class {T newId initId : String} {args : List Value} {Q : Value → Shared → Prop} (ft : TypeCalled T newId initId) (hct : checkTypeCall T ⟨args, []⟩ = pure ())
    (h : codeAny (model prog w) A.in1 (.call (.builtin newId) ⟨.type T :: args, []⟩) (wants (fun obj s1 => s1.TypeIs obj T ∧ codeAny (model prog w) A.in1 (.call (.builtin initId) ⟨obj :: args, []⟩) (wants (fun r s2 => r = .none ∧ Q obj s2) E) s1) E) s) :
    wpAny (model prog w) A (call (.type T) args) Q E s := by
  have q1 := ft.notType
  have q2 := ft.canCreate
  have q3 := ft.made
  have q4 := ft.sub
  obtain ⟨c, tl, q5⟩ := ft.mro
  apply wpAny_call
  apply codeAny_of_tree
  change wpAny (model prog w) _ (callAny (Value.type T) ⟨args, []⟩) _ _ s
  refine wpAny_pure (And.intro (Code.quiet_builtin _ (by decide +kernel)) (codeAny_builtin PySem.F.entry_type_call ?_))
  rw [Around.under_plain (weight_type_call_type T args []) (units_type_call_type T args [])]
  repeat (any_goals (first | assumption | wp_step))
  refine codeAny_mono h fun r s1 hr => ?_
  rcases r with e | fl
  · exact hr
  · cases fl with
    | ret obj =>
      obtain ⟨hT, hI⟩ := hr
      have q6 := ft.init.lookup
      have q7 := ft.init.bind obj
      repeat (any_goals (first | assumption | wp_step))
      refine codeAny_mono hI fun r2 s2 hr2 => ?_
      rcases r2 with e2 | fl2
      · exact hr2
      · cases fl2 with
        | ret r3 =>
          obtain ⟨rfl, q⟩ := hr2
          repeat (any_goals (first | assumption | wp_step))
        | _ => exact hr2.elim
    | _ => exact hr.elim
abbrev setObj (b : Bool) : Obj := { cls := .type "set", dict := none, data := .set #[] 0 (.fresh 0 0 b) }
theorem new_set (x : Value) {Q1 : Value → Shared → Prop} (h : Q1 (.ref s.heap.objs.size) { s with heap := s.heap.push (setObj (!(w.params.followText "set-order"))) }) :
    codeAny (model prog w) A (.call (.builtin "set.__new__") ⟨[.type "set", x], []⟩) (wants Q1 E) s := by
  have q := sub_set_self
  refine codeAny_call_builtin PySem.F.plain_set_new PySem.F.entry_set_new (wpAny_of_eq (PySem.F.newCall_set_1 x) ?_)
  unfold Builtin.«set.__new__» Builtin.Frozenset.newClass
  obtain ⟨hp, gs, dr, tk, so⟩ := s
  dsimp only
  wp_walk
  refine wpAny_askSetting (wpAny_pure ?_)
  dsimp only
  simp only [newObj]
  exact wpAny_bind (wpAny_alloc (wpAny_pure (wpAny_pure h)))
variable {K : Type} [DecidableEq K] {knd : KeyKind prog w K}
set_option maxHeartbeats 4000000 in
theorem call_set {l : Addr} {xs : Array Value} {val : Nat → K} {Q : Value → Shared → Prop} (hh : A.handled = none) (hl : s.heap.IsList l xs) (hx : ∀ i v, xs[i]? = some v → knd.is (val i) v = true ∧ v.scannable = true) (hb : xs.size + 1 < scanBound)
    (fin : ∀ (h1 : Heap) (tk : Nat) (ks : List K), SetG knd h1 s.heap.objs.size ks → Upto val xs.size ks → (∀ b o, s.heap.get? b = some o → h1.get? b = some o) → Q (.ref s.heap.objs.size) { s with heap := h1, toks := tk }) :
    wpAny (model prog w) A (call (.type "set") [.ref l]) Q E s := by
  refine call_class PySem.F.called_set (PySem.F.typeCall_set_1 (.ref l)) (new_set (.ref l) ?_)
  generalize hb0 : (!(w.params.followText "set-order")) = b0
  have at0 : (s.heap.push (setObj b0)).get? s.heap.objs.size = some (setObj b0) := Heap.get?_push_size _ rfl
  have ty0 : Shared.TypeIs { s with heap := s.heap.push (setObj b0) } (.ref s.heap.objs.size) "set" := ⟨_, at0, rfl⟩
  refine ⟨ty0, codeAny_call_builtin PySem.F.called_set.init.plain PySem.F.entry_set_init (check_set_init_1 ty0 ?_)⟩
  obtain ⟨⟨c0, d0, dt0, sl0⟩, e0, hc0, n0, hd0⟩ := hl
  simp only at hc0 hd0
  subst hc0 hd0
  have e1 : (s.heap.push (setObj b0)).get? l = some ⟨.type "list", d0, .seq xs n0, sl0⟩ := Heap.get?_push_of_some _ e0
  have li : (s.heap.push (setObj b0)).IsList l xs := ⟨_, e1, rfl, n0, rfl⟩
  have u1 := PySem.F.sub_list_set
  have u2 := PySem.F.sub_list_frozenset
  have u3 : (Value.type "list" == Value.type "dict") = false := by decide
  unfold Builtin.«set.__init__» noKeywords Builtin.Frozenset.updateFrom
  generalize hit : pyIter = it
  wp_walk
  subst hit
  have lt0 : l < s.heap.objs.size := Heap.lt_size e0
  have sz : (s.heap.push (setObj b0)).objs.size = s.heap.objs.size + 1 := Heap.size_push _ _
  refine wpAny_pyIter_list li (wpAny_bind (wpAny_runValue ?_))
  refine fill_loop (knd := knd) (val := val) ((Walks.list (by simp [hh]) _ l (by rw [sz]; exact Nat.ne_of_lt (Nat.lt_succ_of_lt lt0)) xs).toS) (fun z => (List.mem_cons.mp z).elim (fun z => absurd z (Nat.ne_of_lt (by rw [sz]; exact Nat.lt_succ_self _))) fun z => absurd (List.mem_singleton.mp z) (Nat.ne_of_gt lt0)) hx hb 0 _ [] (Nat.zero_le _) ⟨⟨_, Heap.get?_push_size _ rfl, rfl, rfl⟩, li.push _⟩
    ⟨_, Heap.get?_push_of_some _ at0, ⟨⟨rfl, rfl, rfl⟩, ⟨#[], 0, _, rfl, fun e he => by simp at he, .nil, by unfold scanBound; decide, tab_fresh _ _ _, hb0.symm⟩, List.nodup_nil⟩⟩ (Upto.zero val) ?_
  rintro ⟨h2, g2, d2, tk2, o2⟩ ks mv S2 u
  have x1 : g2 = s.gens := mv.gens
  have x2 : d2 = s.drawn := mv.drawn
  have x3 : o2 = s.os := mv.os
  subst x1 x2 x3
  refine wpAny_pure (wpAny_pure ⟨rfl, fin h2 tk2 ks S2 u fun b o e => mv.heap b o ?_ (Heap.get?_push_of_some _ (Heap.get?_push_of_some _ e))⟩)
  have lb := Heap.lt_size e
  intro z
  rcases List.mem_cons.mp z with z | z
  · exact absurd z (Nat.ne_of_lt lb)
  · have z := List.mem_singleton.mp z
    rw [sz] at z
    exact absurd z (Nat.ne_of_lt (Nat.lt_succ_of_lt lb))
end
end SetM
set_option linter.all false
set_option maxRecDepth 100000
namespace SetM
open PySem PyProof.Rows
theorem si_next : Slot "set_iterator" "__next__" "set_iterator.__next__" :=
  Slot.of (owner := "set_iterator") (n := "__next__") (by rw [typeLookup_type, builtinLookup_eq_fast]; kernel_rfl) (by decide +kernel) (by decide +kernel) (by decide +kernel) (.inl (by decide +kernel)) (by rw [isSubtype_type]; kernel_rfl)
theorem si_entry : entryFor table "set_iterator.__next__" = some Builtin.«set_iterator.__next__» := entryFor_of_tree (by kernel_rfl)
theorem si_args (a : Value) : argsOk "set_iterator.__next__" ⟨[a], []⟩ := by unfold argsOk; kernel_rfl
theorem set_iter_entry : entryFor table "set.__iter__" = some Builtin.«frozenset.__iter__» := entryFor_alias (id' := "frozenset.__iter__") (by kernel_rfl) rfl (by decide +kernel) (by kernel_rfl)
end SetM
set_option linter.all false
set_option maxRecDepth 100000
namespace SetM
open PySem PyProof.Rows
theorem erase_perm {α : Type} : ∀ (l : List α) (i : Nat) (h : i < l.length), (l[i] :: l.eraseIdx i).Perm l
  | x :: l, 0, h => .refl _
  | x :: l, i + 1, h => by
    have ih := erase_perm l i (by simpa using h)
    simp only [List.getElem_cons_succ, List.eraseIdx_cons_succ]
    exact (List.Perm.swap _ _ _).trans (ih.cons x)
theorem drawOrder_ok {prog : Program} {w : World} {A : Around} {E : Value → Shared → Prop} {α : Type} : ∀ (n : Nat) (xs : List α) (s : Shared) (Q : List α → Shared → Prop), xs.length = n → (∀ ys d, ys.Perm xs → Q ys { s with drawn := d }) → wpAny (model prog w) A (drawOrder n xs) Q E s
  | 0, xs, s, Q, hn, h => by
    have e : xs = [] := List.length_eq_zero_iff.mp hn
    subst e
    have q := h [] s.drawn .nil
    exact wpAny_pure q
  | n + 1, xs, s, Q, hn, h => by
    cases xs with
    | nil => simp at hn
    | cons x0 xr =>
      generalize hx : x0 :: xr = xs at hn h ⊢
      have e : drawOrder (n + 1) xs = (choose .order xs.length >>= fun i => match xs[i]? with | some x => (drawOrder n (xs.eraseIdx i) >>= fun r => pure (x :: r)) | none => unsupported "internal:drawOrder") := by
        subst hx; rfl
      rw [e]
      refine wpAny_bind ?_
      intro Γ p hΓ
      show Sem.wp _ _ (.choose _ _ _) _ _ _ _
      rw [Sem.wp_choose]
      refine ⟨by omega, ?_⟩
      have lt := Nat.mod_lt ((model prog w).w.draws .order (s.drawn.get .order)) (show xs.length > 0 by omega)
      generalize (model prog w).w.draws .order (s.drawn.get .order) % xs.length = i at lt ⊢
      rw [Sem.wp_pure]
      have ex : xs[i]? = some xs[i] := List.getElem?_eq_getElem lt
      dsimp only
      rw [ex]
      refine wpAny_bind (drawOrder_ok n (xs.eraseIdx i) _ _ (by rw [List.length_eraseIdx_of_lt lt]; omega) fun ys d hp => wpAny_pure (h _ _ ((hp.cons _).trans (erase_perm xs i lt))))
inductive Fst (w : World) (a : Addr) (es : Array (Int × Value)) (ep : Nat) (t : SetTable) (h : Heap) : Nat → Value → List Value → Prop where
  | byText {i : Nat} {k : Int} {tk : Tok} : w.params.followText "set-order" = true → Fst w a es ep t h i (.int k tk) ((pickOrder (w.params.setOrder a ep) es).toList.map (·.2))
  | drawn {i : Nat} {T : Addr} {c : Nat} {ps : List Nat} : ps.Perm (List.range es.size) → h.get? T = some { cls := .type "tuple", data := .seq (ps.map fun (p : Nat) => rawInt p).toArray c } →
      Fst w a es ep t h i (.ref T) (ps.map fun p => (es.getD p (0, .none)).2)
  | plain {i : Nat} {tk : Tok} : w.params.followText "set-order" = false → (!t.plain && es.size > 1) = false → t.led = true → Fst w a es ep t h i (.int (if i = 0 then 0 else ((t.place.getD (i - 1) 0 + 1 : Nat) : Int)) tk) (es.toList.map (·.2))
abbrev itObj (first : Value) (i : Nat) (a : Addr) (n ep : Nat) : Obj := { cls := .type "set_iterator", data := .fields #[first, rawInt i, .ref a, rawInt n, rawInt ep] }
section
variable {prog : Program} {w : World} {A : Around} {E : Value → Shared → Prop} {s : Shared} {a : Addr} {o : Obj} {es : Array (Int × Value)} {ep : Nat} {t : SetTable}
theorem iter_set {Q : Value → Shared → Prop} (ho : s.heap.get? a = some o) (hex : o.ExactSet) (hd : o.data = .set es ep t) (ti : TabI t es.size) (hl : t.led = !(w.params.followText "set-order")) (hb : es.size < scanBound)
    (fin : ∀ I first h1 d vs, (∀ b ob, s.heap.get? b = some ob → h1.get? b = some ob) → s.heap.objs.size ≤ I → h1.get? I = some (itObj first 0 a es.size ep) → (∀ T, first = .ref T → T ≠ I ∧ s.heap.objs.size ≤ T) → Fst w a es ep t h1 0 first vs → Q (.ref I) { s with heap := h1, drawn := d }) :
    wpAny (model prog w) A (pyIter (.ref a)) Q E s := by
  have hT : s.TypeIs (.ref a) "set" := ⟨o, ho, hex.1⟩
  refine wpAny_pyIter_slot hT PySem.F.slot_set_iter (wpAny_call_entry PySem.F.slot_set_iter hT set_iter_entry ?_ (PySem.F.args_set_iter_1 _))
  unfold Builtin.«frozenset.__iter__» Builtin.Frozenset.slot0 slotArgs
  simp only [List.isEmpty_nil, Bool.not_true, Bool.false_eq_true, ↓reduceIte, bind_assoc, List.length_nil, bne_self_eq_false]
  unfold Builtin.Frozenset.addrOf Builtin.Frozenset.sizeOf
  refine wpAny_bind (wpAny_pure ?_)
  dsimp only
  refine wpAny_bind (wpAny_pure ?_)
  refine wpAny_bind (wpAny_bind (wpAny_setEntries_of ho hd ti.fits (wpAny_pure ?_)))
  unfold setDrawn setsByText
  refine wpAny_bind (wpAny_bind (wpAny_setState_of ho hd ti.fits ?_))
  dsimp only
  refine wpAny_bind (wpAny_bind (wpAny_askSetting (wpAny_pure (wpAny_pure ?_))))
  dsimp only
  have eEp : ∀ (s1 : Shared) {Q1 : Nat → Shared → Prop}, s1.heap.get? a = some o → Q1 ep s1 → wpAny (model prog w) A.in1 (setEpoch a) Q1 E s1 := fun s1 Q1 e q => wpAny_setEpoch_of e hd ti.fits q
  split
  · rename_i hdr
    refine wpAny_bind (drawOrder_ok _ _ _ _ (List.length_range) fun ps d hp => ?_)
    refine wpAny_bind (wpAny_newTuple ?_ (by rw [List.length_map, hp.length_eq, List.length_range]; exact fits_of_scanBound hb))
    refine wpAny_bind (eEp _ (Heap.get?_push_of_some _ ho) ?_)
    refine wpAny_bind (wpAny_newObj_type (wpAny_pure ⟨_, rfl, "set_iterator", _, ⟨_, Heap.get?_push_size _ rfl, rfl⟩, si_next.lookup, ?_⟩))
    refine fin _ (.ref s.heap.objs.size) _ d _ (fun b ob e => Heap.get?_push_of_some _ (Heap.get?_push_of_some _ e)) ?_ (Heap.get?_push_size _ rfl) ?_ (.drawn hp (Heap.get?_push_of_some _ (Heap.get?_push_size _ rfl)))
    · rw [Heap.size_push]; exact Nat.le_succ _
    · rintro T e
      cases e
      exact ⟨by rw [Heap.size_push]; exact Nat.ne_of_lt (Nat.lt_succ_self _), Nat.le_refl _⟩
  · rename_i hdr
    refine wpAny_bind (wpAny_pure (wpAny_bind (eEp _ ho ?_)))
    refine wpAny_bind (wpAny_newObj_type (wpAny_pure ⟨_, rfl, "set_iterator", _, ⟨_, Heap.get?_push_size _ rfl, rfl⟩, si_next.lookup, ?_⟩))
    have old : ∀ b ob, s.heap.get? b = some ob → (s.heap.push (itObj (rawInt 0) 0 a es.size ep)).get? b = some ob := fun b ob e => Heap.get?_push_of_some _ e
    cases hbt : w.params.followText "set-order" with
    | true => exact fin s.heap.objs.size (rawInt 0) _ s.drawn _ old (Nat.le_refl _) (Heap.get?_push_size _ rfl) (fun T e => by cases e) (.byText hbt)
    | false =>
      have h1 : (!t.plain && decide (es.size > 1)) = false := by
        have h2 : ¬ (!false && (!t.plain && decide (es.size > 1))) = true := by rw [← hbt]; exact hdr
        simpa using h2
      exact fin s.heap.objs.size (rawInt 0) _ s.drawn _ old (Nat.le_refl _) (Heap.get?_push_size _ rfl) (fun T e => by cases e) (.plain hbt h1 (by rw [hl, hbt]; rfl))
end
end SetM
set_option linter.all false
set_option maxRecDepth 100000
namespace SetM
open PySem PyProof.Rows
theorem pick_go {α : Type} (nx : Nat → Nat) : ∀ (fuel k : Nat) (left : List α) (out : Array α), left.length ≤ fuel → (pickOrder.go nx fuel k left out).toList.Perm (out.toList ++ left)
  | 0, k, left, out, h => by
    have e : left = [] := List.length_eq_zero_iff.mp (by omega)
    subst e
    simp [pickOrder.go]
  | fuel + 1, k, left, out, h => by
    simp only [pickOrder.go]
    cases left with
    | nil => simp
    | cons x0 xr =>
      generalize hx : x0 :: xr = l at h ⊢
      have lt : nx k % l.length < l.length := Nat.mod_lt _ (by rw [← hx]; simp)
      rw [List.getElem?_eq_getElem lt]
      dsimp only
      refine (pick_go nx fuel (k + 1) _ _ (by rw [List.length_eraseIdx_of_lt lt]; omega)).trans ?_
      rw [Array.toList_push, List.append_assoc]
      exact List.Perm.append_left _ (erase_perm l _ lt)
theorem pick_perm {α : Type} (nx : Nat → Nat) (xs : Array α) : (pickOrder nx xs).toList.Perm xs.toList := by
  have q := pick_go nx xs.size 0 xs.toList #[] (by simp)
  exact q
theorem range_items (es : Array (Int × Value)) : (List.range es.size).map (fun p => (es.getD p (0, .none)).2) = es.toList.map (·.2) := by
  apply List.ext_getElem
  · simp
  · intro i h1 h2
    have h3 : i < es.size := by simpa using h1
    simp [h3]
section
variable {w : World} {a : Addr} {es : Array (Int × Value)} {ep : Nat} {t : SetTable} {h : Heap} {i : Nat} {first : Value} {vs : List Value}
theorem Fst.perm (F : Fst w a es ep t h i first vs) : vs.Perm (es.toList.map (·.2)) := by
  cases F with
  | byText _ => exact (pick_perm _ _).map _
  | drawn hp _ => rw [← range_items]; exact hp.map _
  | plain _ _ _ => exact .refl _
end
section
variable {prog : Program} {w : World} {A : Around} {E : Value → Shared → Prop} {s : Shared} {a I : Addr} {o : Obj} {es : Array (Int × Value)} {ep : Nat} {t : SetTable} {i : Nat} {first : Value} {vs : List Value}
theorem below_at {xs : Array Nat} (hr : Ris xs) {i : Nat} (hi : i ≤ xs.size) : SetTable.below xs (if i = 0 then (0 : Int) else ((xs.getD (i - 1) 0 + 1 : Nat) : Int)).toNat = i := by
  by_cases h : i = 0
  · subst h
    rw [if_pos rfl]
    exact below_zero hr
  · rw [if_neg h, Int.toNat_natCast, getD_in (by omega), below_next hr (by omega)]
    omega
theorem it_put {h : Heap} {n : Nat} {x0 x1 x2 x3 x4 : Value} (k : Nat) (v : Value) (hI : h.get? I = some { cls := .type "set_iterator", data := .fields #[x0, x1, x2, x3, x4] }) :
    (h.update I (Obj.mapFields (·.setIfInBounds k v))).get? I = some { cls := .type "set_iterator", data := .fields (#[x0, x1, x2, x3, x4].setIfInBounds k v) } := by
  rw [Heap.get?_update_self _ hI rfl]
  rfl
theorem it_else {h : Heap} {f : Obj → Obj} {b : Addr} {ob : Obj} (hb : b ≠ I) (e : h.get? b = some ob) : (h.update I f).get? b = some ob := (Heap.get?_update_other _ _ (Ne.symm hb)).trans e
theorem Fst.heap {h h1 : Heap} (F : Fst w a es ep t h i first vs) (k : ∀ T, first = .ref T → ∀ ob, h.get? T = some ob → h1.get? T = some ob) : Fst w a es ep t h1 i first vs := by
  cases F with
  | byText hb => exact .byText hb
  | drawn hp e => exact .drawn hp (k _ rfl _ e)
  | plain hb hp hl => exact .plain hb hp hl
theorem next_item {v : Value} {Q : Option Value → Shared → Prop} (ho : s.heap.get? a = some o) (hex : o.ExactSet) (hd : o.data = .set es ep t) (ti : TabI t es.size) (hI : s.heap.get? I = some (itObj first i a es.size ep)) (hne : a ≠ I) (hT : ∀ T, first = .ref T → T ≠ I)
    (F : Fst w a es ep t s.heap i first vs) (hv : vs[i]? = some v)
    (fin : ∀ h1 first', (∀ b ob, b ≠ I → s.heap.get? b = some ob → h1.get? b = some ob) → h1.get? I = some (itObj first' (i + 1) a es.size ep) → (∀ T, first' = .ref T → first = .ref T) → Fst w a es ep t h1 (i + 1) first' vs → Q (some v) { s with heap := h1 }) :
    wpAny (model prog w) A (pyNext (.ref I)) Q E s := by
  have hTy : s.TypeIs (.ref I) "set_iterator" := ⟨_, hI, rfl⟩
  unfold pyNext
  refine wpAny_bind (wpAny_attempt (wpAny_callSpecial?_slot (name := Str.ofString "__next__") hTy si_next (wpAny_call_entry si_next hTy si_entry ?_ (si_args _))))
  unfold Builtin.«set_iterator.__next__» slotArgs
  simp only [List.isEmpty_nil, Bool.not_true, Bool.false_eq_true, ↓reduceIte, bind_assoc, List.length_nil, bne_self_eq_false]
  refine wpAny_bind (wpAny_pure ?_)
  dsimp only
  refine wpAny_bind (wpAny_fieldsOf hI rfl ?_)
  dsimp only [rawInt]
  refine wpAny_bind (wpAny_setEntries_of ho hd ti.fits ?_)
  rw [if_neg (by simp)]
  have two : ∀ (nx : Nat) {Q1 : Fin → Shared → Prop}, (∀ h1, (∀ b ob, b ≠ I → s.heap.get? b = some ob → h1.get? b = some ob) → h1.get? I = some (itObj (.int nx 0) (i + 1) a es.size ep) → Q1 (.done (.ret v)) { s with heap := h1 }) →
      wpAny (model prog w) A.in1 (do setField (.ref I) 0 (.int nx 0); setField (.ref I) 1 (.int (i + 1) 0); ret v) Q1 (fun e s' => wpAny (model prog w) A (do let b ← isInstance e (.type "StopIteration"); if b = true then pure none else throw e) Q E s') s := by
    intro nx Q1 q
    refine wpAny_bind (wpAny_setField hI rfl (by simp) ?_)
    have g1 := it_put (n := es.size) 0 (.int nx 0) hI
    refine wpAny_bind (wpAny_setField g1 rfl (by simp) ?_)
    refine wpAny_pure (q _ (fun b ob hb e => it_else hb (it_else hb e)) ?_)
    have g2 := it_put (n := es.size) 1 (.int ((i : Int) + 1) 0) g1
    exact g2
  cases F with
  | byText hb =>
    dsimp only
    unfold setNext setsByText
    refine wpAny_bind (wpAny_bind (wpAny_setState_of ho hd ti.fits ?_))
    dsimp only
    refine wpAny_bind (wpAny_bind (wpAny_askSetting (wpAny_pure ?_)))
    dsimp only
    rw [show (model prog w).w.params.followText "set-order" = true from hb]
    simp only [↓reduceIte, Int.toNat_natCast, bne_self_eq_false, Bool.false_eq_true]
    unfold setWalk setsByText
    refine wpAny_bind (wpAny_bind (wpAny_setState_of ho hd ti.fits ?_))
    dsimp only
    refine wpAny_bind (wpAny_bind (wpAny_askSetting (wpAny_pure ?_)))
    dsimp only
    rw [show (model prog w).w.params.followText "set-order" = true from hb]
    simp only [↓reduceIte]
    refine wpAny_bind (wpAny_askSetting (wpAny_pure ?_))
    dsimp only
    rw [List.getElem?_map, Array.getElem?_toList] at hv
    have hv' : (pickOrder ((model prog w).w.params.setOrder a ep) es)[i]?.map (·.2) = some v := hv
    cases hq : (pickOrder ((model prog w).w.params.setOrder a ep) es)[i]? with
    | none => rw [hq] at hv'; cases hv'
    | some e =>
      rw [hq] at hv'
      cases hv'
      refine wpAny_pure ?_
      dsimp only [Option.map_some]
      exact two _ fun h1 k1 g1 => ⟨_, rfl, wpAny_pure (fin h1 _ k1 g1 (fun T z => by cases z) (.byText hb))⟩
  | @drawn T c ps hp hT2 =>
    dsimp only
    refine wpAny_bind (wpAny_seqItems hT2 rfl ?_)
    dsimp only
    rw [List.getElem?_map] at hv
    cases hq : ps[i]? with
    | none => rw [hq] at hv; cases hv
    | some p =>
      rw [hq] at hv
      cases hv
      have hlt : p < es.size := List.mem_range.mp (hp.mem_iff.mp (List.mem_of_getElem? hq))
      have e1 : (List.map (fun (p : Nat) => rawInt p) ps).toArray[((i : Int)).toNat]? = some (.int (p : Int) 0) := by
        simp only [Int.toNat_natCast, List.getElem?_toArray, List.getElem?_map, hq]
        rfl
      rw [e1]
      dsimp only
      unfold setNextDrawn
      refine wpAny_bind (wpAny_bind (wpAny_setState_of ho hd ti.fits ?_))
      dsimp only
      simp only [Int.toNat_natCast, bne_self_eq_false, Bool.false_eq_true, ↓reduceIte, Array.getElem?_eq_getElem hlt]
      refine wpAny_pure ?_
      refine wpAny_bind (wpAny_setField hI rfl (by simp) ?_)
      have g1 := it_put (n := es.size) 1 (.int ((i : Int) + 1) 0) hI
      have e2 : (es.getD p (0, Value.none)).2 = es[p].2 := by simp [hlt]
      refine wpAny_pure ⟨_, rfl, wpAny_pure ?_⟩
      have q := fin _ _ (fun b ob hb e => it_else hb e) g1 (fun T z => z) (.drawn hp (it_else (hT T rfl) hT2))
      dsimp only at q
      rw [e2] at q
      exact q
  | plain hb hpl hled =>
    dsimp only
    unfold setNext setsByText
    refine wpAny_bind (wpAny_bind (wpAny_setState_of ho hd ti.fits ?_))
    dsimp only
    refine wpAny_bind (wpAny_bind (wpAny_askSetting (wpAny_pure ?_)))
    dsimp only
    rw [show (model prog w).w.params.followText "set-order" = false from hb]
    simp only [↓reduceIte, Int.toNat_natCast, bne_self_eq_false, Bool.false_eq_true]
    rw [if_neg (fun z => by have z' : (!t.plain && decide (es.size > 1)) = true := z; rw [hpl] at z'; cases z')]
    have led0 : ∀ {Q1 : Unit → Shared → Prop} {E1 : Value → Shared → Prop}, Q1 () s → wpAny (model prog w) A.in1 (if (!t.led && !es.isEmpty) = true then unsupported "set:maker-not-led" else pure ()) Q1 E1 s := fun q => by
      rw [hled, if_neg (by simp)]
      exact wpAny_pure q
    refine wpAny_bind (led0 ?_)
    rw [List.getElem?_map, Array.getElem?_toList] at hv
    cases hq : es[i]? with
    | none => rw [hq] at hv; cases hv
    | some e =>
      rw [hq] at hv
      cases hv
      have hlt : i < es.size := (Array.getElem?_eq_some_iff.mp hq).1
      have hlp : i < t.place.size := by rw [ti.size]; exact hlt
      rw [below_at ti.ris (Nat.le_of_lt hlp), hq, Array.getElem?_eq_getElem hlp]
      refine wpAny_pure ?_
      dsimp only
      refine two _ fun h1 k1 g1 => ⟨_, rfl, wpAny_pure (fin h1 _ k1 g1 (fun T z => by cases z) ?_)⟩
      have q := Fst.plain (w := w) (a := a) (es := es) (ep := ep) (t := t) (h := h1) (i := i + 1) (tk := 0) hb hpl hled
      rw [if_neg (Nat.succ_ne_zero i), Nat.add_sub_cancel, getD_in hlp] at q
      exact q
theorem next_end {Q : Option Value → Shared → Prop} (hh : A.handled = none) (ho : s.heap.get? a = some o) (hex : o.ExactSet) (hd : o.data = .set es ep t) (ti : TabI t es.size) (hI : s.heap.get? I = some (itObj first i a es.size ep)) (hne : a ≠ I)
    (F : Fst w a es ep t s.heap i first vs) (hi : i = vs.length)
    (fin : ∀ h1, (∀ b ob, b ≠ I → s.heap.get? b = some ob → h1.get? b = some ob) → Q none { s with heap := h1 }) :
    wpAny (model prog w) A (pyNext (.ref I)) Q E s := by
  have hTy : s.TypeIs (.ref I) "set_iterator" := ⟨_, hI, rfl⟩
  have hlen : i = es.size := by rw [hi, F.perm.length_eq, List.length_map, Array.length_toList]
  unfold pyNext
  refine wpAny_bind (wpAny_attempt (wpAny_callSpecial?_slot (name := Str.ofString "__next__") hTy si_next (wpAny_call_entry si_next hTy si_entry ?_ (si_args _))))
  unfold Builtin.«set_iterator.__next__» slotArgs
  simp only [List.isEmpty_nil, Bool.not_true, Bool.false_eq_true, ↓reduceIte, bind_assoc, List.length_nil, bne_self_eq_false]
  refine wpAny_bind (wpAny_pure ?_)
  dsimp only
  refine wpAny_bind (wpAny_fieldsOf hI rfl ?_)
  dsimp only [rawInt]
  refine wpAny_bind (wpAny_setEntries_of ho hd ti.fits ?_)
  rw [if_neg (by simp)]
  have stop : ∀ (h0 : Heap) {Q1 : Fin → Shared → Prop}, (∀ b ob, b ≠ I → s.heap.get? b = some ob → h0.get? b = some ob) → wpAny (model prog w) A.in1 (do let e ← newExc (.type "StopIteration") []; raiseNew e) Q1
      (fun e s' => wpAny (model prog w) A (do let b ← isInstance e (.type "StopIteration"); if b = true then pure none else throw e) Q E s') { s with heap := h0 } := by
    intro h0 Q1 k0
    refine wpAny_bind ?_
    simp only [newExc, newTuple]
    refine wpAny_bind (wpAny_newObj_type ?_ (by size_fits))
    refine wpAny_bind (m := firstArgMember _ _) (wpAny_of_eq (a := Value.none) (by first | rfl | (simp only [firstArgMember]; rfl)) ?_)
    refine wpAny_newObj_type ?_ (by size_fits)
    simp only [raiseNew]
    refine wpAny_bind (wpAny_handled ?_)
    rw [show A.in1.handled = none from hh]
    refine wpAny_bind (wpAny_pure (wpAny_throw ?_))
    refine wpAny_bind (wpAny_isInstance (T := "StopIteration") (b := true) ⟨_, Heap.get?_push_size _ rfl, rfl⟩ isSubtype_stop ?_)
    exact wpAny_pure (fin _ fun b ob hb e => Heap.get?_push_of_some _ (Heap.get?_push_of_some _ (k0 b ob hb e)))
  have one : ∀ {Q1 : Fin → Shared → Prop}, wpAny (model prog w) A.in1 (do setField (.ref I) 2 .none; let e ← newExc (.type "StopIteration") []; raiseNew e) Q1
      (fun e s' => wpAny (model prog w) A (do let b ← isInstance e (.type "StopIteration"); if b = true then pure none else throw e) Q E s') s := by
    intro Q1
    exact wpAny_bind (wpAny_setField hI rfl (by simp) (stop _ fun b ob hb e => it_else hb e))
  cases F with
  | byText hb =>
    dsimp only
    unfold setNext setsByText
    refine wpAny_bind (wpAny_bind (wpAny_setState_of ho hd ti.fits ?_))
    dsimp only
    refine wpAny_bind (wpAny_bind (wpAny_askSetting (wpAny_pure ?_)))
    dsimp only
    rw [show (model prog w).w.params.followText "set-order" = true from hb]
    simp only [↓reduceIte, Int.toNat_natCast, bne_self_eq_false, Bool.false_eq_true]
    unfold setWalk setsByText
    refine wpAny_bind (wpAny_bind (wpAny_setState_of ho hd ti.fits ?_))
    dsimp only
    refine wpAny_bind (wpAny_bind (wpAny_askSetting (wpAny_pure ?_)))
    dsimp only
    rw [show (model prog w).w.params.followText "set-order" = true from hb]
    simp only [↓reduceIte]
    refine wpAny_bind (wpAny_askSetting (wpAny_pure ?_))
    dsimp only
    have no : (pickOrder ((model prog w).w.params.setOrder a ep) es)[i]? = none := by
      rw [Array.getElem?_eq_none_iff]
      rw [hi, List.length_map, Array.length_toList]
      exact Nat.le_refl _
    rw [no]
    refine wpAny_pure ?_
    exact one
  | @drawn T c ps hp hT2 =>
    dsimp only
    refine wpAny_bind (wpAny_seqItems hT2 rfl ?_)
    dsimp only
    have e1 : (List.map (fun (p : Nat) => rawInt p) ps).toArray[((i : Int)).toNat]? = none := by
      rw [hi]
      simp
    rw [e1]
    dsimp only
    refine wpAny_bind (wpAny_setField hI rfl (by simp) ?_)
    have g1 := it_put (n := es.size) 0 (.int 0 0) hI
    refine wpAny_bind (wpAny_setField g1 rfl (by simp) ?_)
    exact stop _ fun b ob hb e => it_else hb (it_else hb e)
  | plain hb hpl hled =>
    dsimp only
    unfold setNext setsByText
    refine wpAny_bind (wpAny_bind (wpAny_setState_of ho hd ti.fits ?_))
    dsimp only
    refine wpAny_bind (wpAny_bind (wpAny_askSetting (wpAny_pure ?_)))
    dsimp only
    rw [show (model prog w).w.params.followText "set-order" = false from hb]
    simp only [↓reduceIte, Int.toNat_natCast, bne_self_eq_false, Bool.false_eq_true]
    rw [if_neg (fun z => by have z' : (!t.plain && decide (es.size > 1)) = true := z; rw [hpl] at z'; cases z')]
    have led0 : ∀ {Q1 : Unit → Shared → Prop} {E1 : Value → Shared → Prop}, Q1 () s → wpAny (model prog w) A.in1 (if (!t.led && !es.isEmpty) = true then unsupported "set:maker-not-led" else pure ()) Q1 E1 s := fun q => by
      rw [hled, if_neg (by simp)]
      exact wpAny_pure q
    refine wpAny_bind (led0 ?_)
    rw [below_at ti.ris (by rw [ti.size, hlen]; exact Nat.le_refl _), Array.getElem?_eq_none (by rw [hlen]; exact Nat.le_refl _)]
    refine wpAny_pure ?_
    exact one
end
end SetM
set_option linter.all false
set_option maxRecDepth 100000
namespace SetM
open PySem PyProof.Rows
theorem si_iter : Slot "set_iterator" "__iter__" "set_iterator.__iter__" :=
  Slot.of (owner := "set_iterator") (n := "__iter__") (by rw [typeLookup_type, builtinLookup_eq_fast]; kernel_rfl) (by decide +kernel) (by decide +kernel) (by decide +kernel) (.inl (by decide +kernel)) (by rw [isSubtype_type]; kernel_rfl)
theorem si_iter_entry : entryFor table "set_iterator.__iter__" = some Builtin.«dict_keyiterator.__iter__» := entryFor_alias (id' := "dict_keyiterator.__iter__") (by kernel_rfl) rfl (by decide +kernel) (by kernel_rfl)
theorem si_iter_args (a : Value) : argsOk "set_iterator.__iter__" ⟨[a], []⟩ := by unfold argsOk; kernel_rfl
section
variable {prog : Program} {w : World} {A : Around} {E : Value → Shared → Prop} {s : Shared} {a I : Addr} {o : Obj} {es : Array (Int × Value)} {ep : Nat} {t : SetTable} {vs : List Value}
def StI (w : World) (a I : Addr) (o : Obj) (es : Array (Int × Value)) (ep : Nat) (t : SetTable) (Ts : List Addr) (vs : List Value) (i : Nat) (h : Heap) : Prop :=
  ∃ first, h.get? I = some (itObj first i a es.size ep) ∧ h.get? a = some o ∧ (∀ T, first = .ref T → T ∈ Ts) ∧ Fst w a es ep t h i first vs
theorem walks_set (hh : A.handled = none) (hex : o.ExactSet) (hd : o.data = .set es ep t) (ti : TabI t es.size) (hne : a ≠ I) (Ts : List Addr) (hTs : I ∉ Ts) :
    Walks prog w A I (I :: a :: Ts) [I] vs.length (fun i v => vs[i]? = some v) (StI w a I o es ep t Ts vs) where
  sub := fun b hb => by rw [List.mem_singleton.mp hb]; exact List.mem_cons_self
  frame := fun i h h1 st k => by
    obtain ⟨first, g1, g2, g3, F⟩ := st
    exact ⟨first, k I List.mem_cons_self _ g1, k a (List.mem_cons_of_mem _ List.mem_cons_self) _ g2, g3, F.heap fun T e ob q => k T (List.mem_cons_of_mem _ (List.mem_cons_of_mem _ (g3 T e))) ob q⟩
  item := fun i s Q E hi st fin => by
    obtain ⟨first, g1, g2, g3, F⟩ := st
    refine next_item g2 hex hd ti g1 hne (fun T e z => hTs (z ▸ g3 T e)) F (List.getElem?_eq_getElem hi) fun h1 first' k1 q1 q2 F1 => ?_
    exact fin _ h1 s.toks (List.getElem?_eq_getElem hi) ⟨first', q1, k1 a o hne g2, fun T e => g3 T (q2 T e), F1⟩ fun b ob hb e => k1 b ob (fun z => hb (by rw [z]; exact List.mem_singleton_self _)) e
  done := fun s Q E st fin => by
    obtain ⟨first, g1, g2, g3, F⟩ := st
    exact next_end hh g2 hex hd ti g1 hne F rfl fun h1 k1 => fin h1 s.toks fun b ob hb e => k1 b ob (fun z => hb (by rw [z]; exact List.mem_singleton_self _)) e
  self := fun i s Q E st q => by
    obtain ⟨first, g1, g2, g3, F⟩ := st
    have hTy : s.TypeIs (.ref I) "set_iterator" := ⟨_, g1, rfl⟩
    refine wpAny_pyIter_slot hTy si_iter (wpAny_call_entry si_iter hTy si_iter_entry ?_ (si_iter_args _))
    exact wpAny_pure ⟨_, rfl, "set_iterator", _, hTy, si_next.lookup, q⟩
theorem hint_set (hT : s.TypeIs (.ref a) "set") {Q : Bool → Shared → Prop} (h : Q false s) : wpAny (model prog w) A (Builtin.List.listLengthHint (.ref a)) Q E s := by
  unfold Builtin.List.listLengthHint
  refine wpAny_bind (wpAny_specialOf hT PySem.F.slot_set_len.lookup ?_)
  generalize hid : ("set.__len__" : String) = id0
  wp_delta
  rw [show splitId id0 = some ("set", "__len__") from by subst hid; decide +kernel]
  subst hid
  refine wpAny_bind (wpAny_isInstance (b := true) hT sub_set_self (wpAny_ite_split (fun z => absurd z (by decide)) fun _ => wpAny_ite_split (fun _ => ?_) fun z => absurd (by decide +kernel) z))
  exact wpAny_bind (wpAny_typeOf hT (wpAny_pure h))
theorem collect_set {Q : List Value → Shared → Prop} (hh : A.handled = none) (ho : s.heap.get? a = some o) (hex : o.ExactSet) (hd : o.data = .set es ep t) (ti : TabI t es.size) (hl : t.led = !(w.params.followText "set-order")) (hb : es.size < scanBound)
    (fin : ∀ (h1 : Heap) (tk : Nat) (d : Drawn) (vs : List Value), (∀ b ob, s.heap.get? b = some ob → h1.get? b = some ob) → s.heap.objs.size < h1.objs.size → vs.Perm (es.toList.map (·.2)) → Q vs { s with heap := h1, toks := tk, drawn := d }) :
    wpAny (model prog w) A (collect (.ref a)) Q E s := by
  have alt := Heap.lt_size ho
  unfold collect
  refine wpAny_bind (wpAny_runValue (codeAny_builtin entry_proto_collect' ?_))
  rw [Around.under_plainId PySem.F.plain_proto_collect]
  refine wpAny_bind (m := newList []) (wpAny_newObj_type (wpAny_pure ⟨plainId_quiet PySem.F.plain_list_iadd _, codeAny_builtin entry_list_iadd' ?_⟩))
  rw [Around.under_plainId PySem.F.plain_list_iadd]
  generalize hs1 : ({ s with heap := s.heap.push { cls := .type "list", dict := none, data := .seq ([] : List Value).toArray } } : Shared) = s1
  change wpAny (model prog w) A.in1 (Builtin.List.listExtendWith (.ref s.heap.objs.size) (.ref a) (.ref s.heap.objs.size)) _ _ _
  have at1 : s1.heap.get? s.heap.objs.size = some { cls := .type "list", dict := none, data := .seq #[] 0, slots := #[] } := by rw [← hs1]; exact Heap.get?_push_size _ rfl
  have k1 : ∀ b ob, s.heap.get? b = some ob → s1.heap.get? b = some ob := fun b ob e => by rw [← hs1]; exact Heap.get?_push_of_some _ e
  have ho1 := k1 a o ho
  have hT1 : s1.TypeIs (.ref a) "set" := ⟨o, ho1, hex.1⟩
  unfold Builtin.List.listExtendWith
  refine wpAny_bind (wpAny_typeOf hT1 ?_)
  have n1 : Builtin.List.listSameRef (.ref s.heap.objs.size) (.ref a) = false := by
    simp only [Builtin.List.listSameRef, beq_eq_false_iff_ne]
    exact Nat.ne_of_gt alt
  have n2 : (Value.type "set" == Value.type "list") = false := by decide
  have n3 : (Value.type "set" == Value.type "tuple") = false := by decide
  simp only [n1, n2, n3, Bool.or_false, Bool.false_eq_true, if_false]
  refine wpAny_bind (iter_set ho1 hex hd ti hl hb fun I first h2 d vs k2 hI at2 hf F => ?_)
  generalize hS : s.heap.objs.size = S at *
  have S1 : S < s1.heap.objs.size := Heap.lt_size at1
  obtain ⟨Ts, tin, tout, tall⟩ : ∃ Ts : List Addr, (∀ T, first = .ref T → T ∈ Ts) ∧ I ∉ Ts ∧ ∀ T ∈ Ts, s1.heap.objs.size ≤ T := by
    cases first with
    | ref T => exact ⟨[T], (fun T' e => by cases e; exact List.mem_singleton_self _), fun z => (hf T rfl).1 (List.mem_singleton.mp z).symm, fun T' z => by rw [List.mem_singleton.mp z]; exact (hf T rfl).2⟩
    | _ => exact ⟨[], (fun T e => nomatch e), List.not_mem_nil, fun T z => absurd z List.not_mem_nil⟩
  have aI : a ≠ I := Nat.ne_of_lt (Nat.lt_of_lt_of_le (Nat.lt_trans alt S1) hI)
  have SI : S ≠ I := Nat.ne_of_lt (Nat.lt_of_lt_of_le S1 hI)
  have Sfp : S ∉ I :: a :: Ts := fun z => by
    rcases List.mem_cons.mp z with z | z
    · exact SI z
    · rcases List.mem_cons.mp z with z | z
      · exact Nat.ne_of_gt alt z
      · exact absurd (Nat.lt_of_lt_of_le S1 (tall S z)) (Nat.lt_irrefl _)
  have hn : vs.length ≤ sizeLine := by
    rw [F.perm.length_eq, List.length_map, Array.length_toList]
    exact fits_of_scanBound hb
  have W := walks_set (prog := prog) (w := w) (A := A.in1) (vs := vs) hh hex hd ti aI Ts tout
  have st2 : StI w a I o es ep t Ts vs 0 h2 := ⟨first, at2, k2 a o ho1, tin, F⟩
  have key : ∀ (h3 : Heap) (c : Nat), StI w a I o es ep t Ts vs 0 h3 → h3.get? S = some { cls := .type "list", dict := none, data := .seq #[] c, slots := #[] } → (∀ b ob, s.heap.get? b = some ob → h3.get? b = some ob) →
      codeAny (model prog w) A (.builtin "list.extend.loop" ⟨[.ref S, .ref I, .ref S], []⟩) (fun r s' => match r with
        | .ok (.ret v) => wpAny (model prog w) A (match v with
            | .ref a => do
              let x ← load a
              match x.data with
                | .seq xs _ => pure xs.toList
                | _ => unsupported "internal:collect"
            | _ => unsupported "internal:collect") Q E s'
        | .ok _ => False
        | .error e => E e s') { heap := h3, gens := s1.gens, drawn := d, toks := s1.toks, os := s1.os } := by
    intro h3 c st3 g3 k3
    refine codeAny_extend_loopS W.toS hn S Sfp (.ref S) vs.length 0 _ #[] c rfl (Nat.zero_le _) st3 g3 (ItemsOf.nil _) fun s4 acc c4 mv g4 items => ?_
    dsimp only
    refine wpAny_bind (wpAny_load g4 ?_)
    dsimp only
    obtain ⟨h4, gg, d4, tk4, o4⟩ := s4
    have x1 : gg = s1.gens := mv.gens
    have x2 : d4 = d := mv.drawn
    have x3 : o4 = s1.os := mv.os
    subst x1 x2 x3
    have ev : acc.toList = vs := by
      apply List.ext_getElem?
      intro i
      rw [Array.getElem?_toList]
      by_cases hi : i < vs.length
      · have hi' : i < acc.size := by rw [items.1]; exact hi
        rw [Array.getElem?_eq_getElem hi']
        exact (items.2 i _ (Array.getElem?_eq_getElem hi')).symm
      · rw [Array.getElem?_eq_none (by rw [items.1]; omega), List.getElem?_eq_none (by omega)]
    rw [ev]
    have q := fin h4 tk4 d4 vs (fun b ob e => mv.heap b ob (fun z => ?_) (k3 b ob e)) (Heap.lt_size g4) F.perm
    · rw [← hs1]
      exact wpAny_pure q
    · have lb := Heap.lt_size e
      rcases List.mem_cons.mp z with z | z
      · rw [hS, z] at lb
        exact Nat.lt_irrefl _ lb
      · rw [List.mem_singleton.mp z, hS] at lb
        exact Nat.lt_irrefl _ (Nat.lt_of_lt_of_le (Nat.lt_trans lb S1) hI)
  have kall : ∀ b ob, s.heap.get? b = some ob → h2.get? b = some ob := fun b ob e => k2 b ob (k1 b ob e)
  have nbS : ∀ {b : Addr} {ob : Obj}, s.heap.get? b = some ob → b ≠ S := fun e => Nat.ne_of_lt (hS ▸ Heap.lt_size e)
  refine wpAny_bind (wpAny_holding (hint_set ⟨o, k2 a o ho1, hex.1⟩ ?_))
  refine wpAny_ite_split (fun _ => ?_) (fun _ => wpAny_pure ⟨plainId_quiet PySem.F.plain_extend_loop _, key h2 0 st2 (k2 S _ at1) kall⟩)
  refine wpAny_bind (wpAny_rule (wpAny_bind (m := Builtin.List.listTouch (.ref S)) ?_))
  change wpAny (model prog w) _ (updateSeq S (·.push .none) >>= fun _ => updateSeq S (·.pop)) _ _ _
  refine wpAny_bind (wpAny_updateSeq (k2 S _ at1) rfl ?_)
  have u1 := Heap.get?_update_self (Obj.mapSeq (·.push Value.none)) (k2 S _ at1) rfl
  refine wpAny_updateSeq (hz := by seq_fits) u1 rfl ?_
  have u2 := Heap.get?_update_self (Obj.mapSeq (·.pop)) u1 rfl
  have other : ∀ b ob, b ≠ S → h2.get? b = some ob → ((h2.update S (Obj.mapSeq (·.push Value.none))).update S (Obj.mapSeq (·.pop))).get? b = some ob := fun b ob z e => (Heap.get?_update_other _ _ (Ne.symm z)).trans ((Heap.get?_update_other _ _ (Ne.symm z)).trans e)
  refine wpAny_pure ⟨plainId_quiet PySem.F.plain_extend_loop _, key _ _ (W.frame 0 _ _ st2 fun b z ob e => other b ob (fun y => Sfp (y ▸ z)) e) u2 fun b ob e => other b ob (nbS e) (kall b ob e)⟩
end
end SetM
set_option linter.all false
set_option maxRecDepth 100000
namespace SetM
open PySem PyProof.Rows
section
variable {prog : Program} {w : World} {K : Type} [DecidableEq K] {knd : PySem.KeyKind prog w K} {A : Around} {E : Value → Shared → Prop} {s : Shared} {a : Addr}
theorem sortedHeap_keep {h : Heap} {l b : Addr} {vs : List Value} {out : Array Value} {ob : Obj} (hb : b ≠ l) (e : h.get? b = some ob) : (sortedHeap h l vs out).get? b = some ob := by
  rw [sortedHeap_old hb (Heap.lt_size e)]
  exact e
theorem paired_map {α β γ : Type} {G : α → γ → Prop} {g : β → γ} : ∀ {l : List α} {r : List β}, Paired (fun x y => G x (g y)) l r → Paired G l (r.map g)
  | _, _, .nil => .nil
  | _, _, .cons q t => .cons q (paired_map t)
theorem sorted_of_set {ks : List K} {Q : Value → Shared → Prop} (hh : A.handled = none) (hS : SetG knd s.heap a ks)
    (fin : ∀ (h1 : Heap) (tk : Nat) (d : Drawn) (vs : List Value) (ks1 : List K), (∀ b ob, s.heap.get? b = some ob → h1.get? b = some ob) → s.heap.objs.size < h1.objs.size → Paired (fun k v => knd.is k v = true) ks1 vs → ks1.Perm ks →
      wpAny (model prog w) A.in1.in1 (Builtin.«list.sort» ⟨[.ref h1.objs.size], []⟩) (fun r s2 => r = .done (.ret .none) ∧ Q (.ref h1.objs.size) s2) E { s with heap := h1.push (seqObj "list" vs.toArray 0), toks := tk, drawn := d }) :
    wpAny (model prog w) A (call (.builtin "sorted") [.ref a]) Q E s := by
  obtain ⟨o, ho, S⟩ := hS
  obtain ⟨es, ep, t, hd, hel, pr, hb, ti, hl⟩ := S.dat
  refine Calls.call_function_entry kind_sorted plain_sorted entry_sorted (args_sorted1 _) ?_
  unfold Builtin.«sorted»
  refine wpAny_bind (m := checkCount "sorted" 1 1 _) (wpAny_pure ?_)
  refine wpAny_bind (collect_set hh ho S.ex hd ti hl hb fun h1 tk d vs k1 sz hp => ?_)
  have hn : vs.length ≤ sizeLine := by
    rw [hp.length_eq, List.length_map, Array.length_toList]
    exact fits_of_scanBound hb
  have pr2 : Paired (fun k v => knd.is k v = true) ks (es.toList.map (·.2)) := paired_map pr
  obtain ⟨ks1, pr3, pk⟩ := paired_perm hp pr2
  refine wpAny_bind (wpAny_newList ?_ hn)
  refine wpAny_bind (wpAny_holding ?_)
  have at1 : (h1.push (seqObj "list" vs.toArray 0)).get? h1.objs.size = some (seqObj "list" vs.toArray 0) := Heap.get?_push_size _ rfl
  refine wpAny_call_entry slot_list_sort ⟨_, at1, rfl⟩ entry_list_sort ?_ (args_list_sort _)
  refine wpAny_mono (fin h1 tk d vs ks1 k1 sz pr3 pk) (fun r s2 q => ?_) fun _ _ z => z
  obtain ⟨rfl, q⟩ := q
  exact ⟨_, rfl, wpAny_pure ⟨_, rfl, q⟩⟩
theorem ints_of {f : K → Int} : ∀ {ks : List K} {vs : List Value}, (∀ k v, k ∈ ks → knd.is k v = true → ∃ t, v = .int (f k) t) → Paired (fun k v => knd.is k v = true) ks vs → IntsAre vs (ks.map f)
  | _, _, _, .nil => .nil
  | k :: ks, v :: vs, hf, .cons r t => by
    obtain ⟨tk, rfl⟩ := hf k v List.mem_cons_self r
    exact .cons _ _ (ints_of (fun k v hk => hf k v (List.mem_cons_of_mem _ hk)) t)
theorem strs_of {f : K → Str} : ∀ {ks : List K} {vs : List Value}, (∀ k v, k ∈ ks → knd.is k v = true → ∃ t, v = .str (f k) t) → Paired (fun k v => knd.is k v = true) ks vs → StrsAre vs (ks.map f)
  | _, _, _, .nil => .nil
  | k :: ks, v :: vs, hf, .cons r t => by
    obtain ⟨tk, rfl⟩ := hf k v List.mem_cons_self r
    exact .cons _ _ (strs_of (fun k v hk => hf k v (List.mem_cons_of_mem _ hk)) t)
theorem sorted_set_ints {ks : List K} {f : K → Int} {Q : Value → Shared → Prop} (hh : A.handled = none) (hS : SetG knd s.heap a ks) (hf : ∀ k v, k ∈ ks → knd.is k v = true → ∃ t, v = .int (f k) t) (h64 : ks.length < 64)
    (fin : ∀ (h1 : Heap) (tk : Nat) (d : Drawn) (l : Addr) (out : Array Value) (n : Nat) (ns : List Int), (∀ b ob, s.heap.get? b = some ob → h1.get? b = some ob) → s.heap.objs.size ≤ l → h1.get? l = some (seqObj "list" out n) → IntsAre out.toList ns → ns.Perm (ks.map f) → ns.Pairwise (· ≤ ·) → Q (.ref l) { s with heap := h1, toks := tk, drawn := d }) :
    wpAny (model prog w) A (call (.builtin "sorted") [.ref a]) Q E s := by
  refine sorted_of_set hh hS fun h1 tk d vs ks1 k1 sz pr pk => ?_
  have hI := ints_of (fun k v hk => hf k v (pk.mem_iff.mp hk)) pr
  have hlen : vs.length = ks.length := by rw [← pr.length, pk.length_eq]
  refine list_sort_tree (s := { s with heap := h1.push (seqObj "list" vs.toArray 0), toks := tk, drawn := d }) (Heap.get?_push_size _ rfl) hI (by omega) fun out ns q1 q2 q3 => ⟨rfl, ?_⟩
  obtain ⟨n, e⟩ := sortedHeap_at (h := h1.push (seqObj "list" vs.toArray 0)) (a := h1.objs.size) (vs := vs) (n := 0) (out := out) (Heap.get?_push_size _ rfl)
  exact fin _ tk d h1.objs.size out n ns (fun b ob e0 => sortedHeap_keep (Nat.ne_of_lt (Heap.lt_size (k1 b ob e0))) (Heap.get?_push_of_some _ (k1 b ob e0))) (Nat.le_of_lt sz) e q1 (q2.trans (pk.map f)) q3
theorem sorted_set_strs {ks : List K} {f : K → Str} {Q : Value → Shared → Prop} (hh : A.handled = none) (hS : SetG knd s.heap a ks) (hf : ∀ k v, k ∈ ks → knd.is k v = true → ∃ t, v = .str (f k) t) (h64 : ks.length < 64)
    (fin : ∀ (h1 : Heap) (tk : Nat) (d : Drawn) (l : Addr) (out : Array Value) (n : Nat) (ns : List Str), (∀ b ob, s.heap.get? b = some ob → h1.get? b = some ob) → s.heap.objs.size ≤ l → h1.get? l = some (seqObj "list" out n) → StrsAre out.toList ns → ns.Perm (ks.map f) → sortedS ns = true → Q (.ref l) { s with heap := h1, toks := tk, drawn := d }) :
    wpAny (model prog w) A (call (.builtin "sorted") [.ref a]) Q E s := by
  refine sorted_of_set hh hS fun h1 tk d vs ks1 k1 sz pr pk => ?_
  have hI := strs_of (fun k v hk => hf k v (pk.mem_iff.mp hk)) pr
  have hlen : vs.length = ks.length := by rw [← pr.length, pk.length_eq]
  refine list_sort_treeK strKind_oneLt (s := { s with heap := h1.push (seqObj "list" vs.toArray 0), toks := tk, drawn := d }) (Heap.get?_push_size _ rfl) hI.keysOf (fun v1 v2 rest e => keyKind_strs (by rw [← e]; exact hI)) (by omega) fun st hp hs => ⟨rfl, ?_⟩
  obtain ⟨ns, q1, q2, q3⟩ := sorted_out_str hI hp hs
  obtain ⟨n, e⟩ := sortedHeap_at (h := h1.push (seqObj "list" vs.toArray 0)) (a := h1.objs.size) (vs := vs) (n := 0) (out := (arrOf st).map (·.2)) (Heap.get?_push_size _ rfl)
  exact fin _ tk d h1.objs.size _ n ns (fun b ob e0 => sortedHeap_keep (Nat.ne_of_lt (Heap.lt_size (k1 b ob e0))) (Heap.get?_push_of_some _ (k1 b ob e0))) (Nat.le_of_lt sz) e q1 (q2.trans (pk.map f)) q3
end
end SetM
set_option Elab.async false
set_option linter.all false
set_option maxRecDepth 100000
namespace L2
open PySem PySem.Spec PyProof.Rows
def SetHO (P : Program) (w : World) (a : Addr) (us : List Key) : HO := .ext fun h => SetM.SetG (mixKind P w) h a us
theorem scan_kV {P : Program} {w : World} (k : Key) {v : Value} (r : RelV (kV k) v) : (mixKind P w).is k v = true ∧ v.scannable = true := by
  cases k with
  | inl i => obtain ⟨t, rfl⟩ := (show ∃ t, v = Value.int i t from r); exact ⟨keyIs_int i t, rfl⟩
  | inr x => obtain ⟨t, rfl⟩ := (show ∃ t, v = Value.str x t from r); exact ⟨keyIs_str x t, rfl⟩
theorem Inv.put {X : Cx} {pins : List (Addr × Obj)} {σ : St} {H : Hp} {s : Shared} {h' : Heap} {a : Addr} {o : HO} {t' : Nat} {d' : Drawn} (I : Inv X pins σ H s) (k : ∀ b u, s.heap.get? b = some u → h'.get? b = some u) (hp : s.heap.objs.size ≤ a) (new : ObjOk X.prog X.w (upd H a o) h' a o) :
    Inv X pins σ (upd H a o) { s with heap := h', toks := t', drawn := d' } :=
  I.call (g' := s.gens) (t' := t') (d' := d') (ch := []) (Un.laid k hp (I.hok.fresh hp)) (I.hok.laid k hp new) I.bare fun b z => absurd z List.not_mem_nil
section
variable {X : Cx}
theorem call_setK (hc : X.calm = true) : CallR X (.type "set") (fun xs H Q => ∃ (p : Addr) (ks : List Key), xs = [.ref p] ∧ SqL X.K H p (ks.map kV) ∧ ks.length + 1 < scanBound ∧
    ∀ (l : Addr) (us : List Key), H l = none → us.Nodup → (∀ x, x ∈ us ↔ x ∈ ks) → us.length ≤ ks.length → Q (.ref l) (upd H l (SetHO X.prog X.w l us))) := by
  intro pins s σ H xs us Q I r h
  obtain ⟨p, ks, rfl, hq, hz, q⟩ := h
  obtain ⟨u, rfl, rx⟩ := vals1 r
  cases rx
  obtain ⟨its, rv, pl, hzz⟩ := I.list hq
  have hl : its.toArray.size = ks.length := by rw [List.size_toArray, ← rv.length, List.length_map]
  refine SetM.call_set (knd := mixKind X.prog X.w) (val := fun i => ks.getD i (.inl 0)) (I.ok.hd hc) pl.isList (fun i v e => ?_) (by omega) fun h1 tk ws S u k1 => ?_
  · have e' : its[i]? = some v := by simpa using e
    have hi : i < ks.length := by
      have := (List.getElem?_eq_some_iff.mp e').1
      rw [List.size_toArray] at hl
      omega
    have e2 : (ks.map kV)[i]? = some (kV ks[i]) := by rw [List.getElem?_map, List.getElem?_eq_getElem hi]; rfl
    obtain ⟨v', g1, g2⟩ := rv.get e2
    rw [e'] at g1
    cases g1
    have e3 : ks.getD i (.inl 0) = ks[i] := by simp [hi]
    rw [e3]
    exact scan_kV _ g2
  · obtain ⟨o, ho, SO⟩ := id S
    have mem : ∀ x, x ∈ ws ↔ x ∈ ks := fun x => by
      rw [u.mem x, hl]
      constructor
      · rintro ⟨j, h1, h2⟩
        rw [← h2]
        have e3 : ks.getD j (.inl 0) = ks[j] := by simp [h1]
        rw [e3]
        exact List.getElem_mem h1
      · intro hx
        obtain ⟨j, h1, h2⟩ := List.mem_iff_getElem.mp hx
        exact ⟨j, h1, by simp [h1, h2]⟩
    refine ⟨.ref s.heap.objs.size, _, I.put (o := SetHO X.prog X.w s.heap.objs.size ws) (d' := s.drawn) k1 (Nat.le_refl _) ⟨S, ⟨o, ho⟩, fun h2 h3 x e => SetM.SetG.at' x e⟩, rfl, q _ ws (I.hok.fresh (Nat.le_refl _)) SO.nd mem ?_⟩
    have := u.len
    omega
theorem vals_strs : ∀ {vs : List Value} {ss : List Str}, StrsAre vs ss → Vals (ss.map V.str) vs
  | _, _, .nil => .nil
  | _, _, .cons y t r => .cons ⟨t, rfl⟩ (vals_strs r)
theorem call_sortedI (hc : X.calm = true) : CallR X (.builtin "sorted") (fun xs H Q => ∃ (a : Addr) (zs : List Int), xs = [.ref a] ∧ H a = some (SetHO X.prog X.w a (zs.map Sum.inl)) ∧ zs.length < 64 ∧
    ∀ (l : Addr) (ns : List Int), H l = none → ns.Perm zs → ns.Pairwise (· ≤ ·) → Q (.ref l) (upd H l (.lst (ns.map V.int)))) := by
  intro pins s σ H xs us Q I r h
  obtain ⟨a, zs, rfl, hq, hz, q⟩ := h
  obtain ⟨u, rfl, rx⟩ := vals1 r
  cases rx
  obtain ⟨S, _, _⟩ := (show SetM.SetG (mixKind X.prog X.w) s.heap a (zs.map Sum.inl) ∧ _ from I.hok a _ hq)
  refine SetM.sorted_set_ints (knd := mixKind X.prog X.w) (f := fun k => match k with | .inl i => i | .inr _ => 0) (I.ok.hd hc) S (fun k v hk hv => ?_) (by rw [List.length_map]; exact hz) fun h1 tk d l out n ns k1 sz at1 hI pm pw => ?_
  · obtain ⟨i, _, rfl⟩ := List.mem_map.mp hk
    rcases keyIs_shape (show keyIs (Sum.inl i) v = true from hv) with ⟨j, t, e, rfl⟩ | ⟨x, t, e, rfl⟩
    · cases e; exact ⟨t, rfl⟩
    · cases e
  · have pm' : ns.Perm zs := by
      have e : (zs.map (Sum.inl : Int → Key)).map (fun k => match k with | .inl i => i | .inr _ => 0) = zs := by rw [List.map_map]; exact List.map_id' _
      rw [← e]; exact pm
    refine ⟨.ref l, _, I.put (o := .lst (ns.map V.int)) k1 sz ⟨?_, out.toList, n, vals_ints hI, ?_⟩, rfl, q l ns (I.hok.fresh sz) pm' pw⟩
    · rw [List.length_map, pm'.length_eq]
      exact Nat.le_of_lt (small1000 (by omega))
    · simpa using at1
theorem call_sortedS (hc : X.calm = true) : CallR X (.builtin "sorted") (fun xs H Q => ∃ (a : Addr) (zs : List Str), xs = [.ref a] ∧ H a = some (SetHO X.prog X.w a (zs.map Sum.inr)) ∧ zs.length < 64 ∧
    ∀ (l : Addr) (ns : List Str), H l = none → ns.Perm zs → sortedS ns = true → Q (.ref l) (upd H l (.lst (ns.map V.str)))) := by
  intro pins s σ H xs us Q I r h
  obtain ⟨a, zs, rfl, hq, hz, q⟩ := h
  obtain ⟨u, rfl, rx⟩ := vals1 r
  cases rx
  obtain ⟨S, _, _⟩ := (show SetM.SetG (mixKind X.prog X.w) s.heap a (zs.map Sum.inr) ∧ _ from I.hok a _ hq)
  refine SetM.sorted_set_strs (knd := mixKind X.prog X.w) (f := fun k => match k with | .inl _ => ("" : Str) | .inr x => x) (I.ok.hd hc) S (fun k v hk hv => ?_) (by rw [List.length_map]; exact hz) fun h1 tk d l out n ns k1 sz at1 hI pm pw => ?_
  · obtain ⟨x, _, rfl⟩ := List.mem_map.mp hk
    rcases keyIs_shape (show keyIs (Sum.inr x) v = true from hv) with ⟨j, t, e, rfl⟩ | ⟨y, t, e, rfl⟩
    · cases e
    · cases e; exact ⟨t, rfl⟩
  · have pm' : ns.Perm zs := by
      have e : (zs.map (Sum.inr : Str → Key)).map (fun k => match k with | .inl _ => ("" : Str) | .inr x => x) = zs := by rw [List.map_map]; exact List.map_id' _
      rw [← e]; exact pm
    refine ⟨.ref l, _, I.put (o := .lst (ns.map V.str)) k1 sz ⟨?_, out.toList, n, vals_strs hI, ?_⟩, rfl, q l ns (I.hok.fresh sz) pm' pw⟩
    · rw [List.length_map, pm'.length_eq]
      exact Nat.le_of_lt (small1000 (by omega))
    · simpa using at1
end
end L2
set_option linter.all false
set_option maxRecDepth 100000
namespace ZipL
open PySem PySem.Calls PyProof.Rows PyProof.V PySem.Spec
abbrev ZAt (h : Heap) (z TI TO : Addr) (f0 f1 : Value) : Prop :=
  h.get? z = some { cls := .type "zip", dict := none, data := .fields #[f0, f1, .bool false, .ref TI, .ref TO], slots := #[] }
section
variable {prog : Program} {w : World} {A : Around} {E : Value → Shared → Prop} {s : Shared} {z TI TO T i1 i2 l1 l2 : Addr} {f : Bool} {oT : Obj} {k1 k2 : Nat} {xs ys : Array Value} {x y : Value}
theorem busy {Q : Bool → Shared → Prop} (hz : ZAt s.heap z TI TO (rawInt T) (.bool f)) (hT : s.heap.get? T = some oT)
    (fin : ∀ h', ZAt h' z TI TO (rawInt T) (.bool true) → Heap.SameBut z s.heap h' → Q false { s with heap := h' }) :
    wpAny (model prog w) A (Builtin.SmallTypes.ownedTupleIsFree (.ref z)) Q E s := by
  unfold Builtin.SmallTypes.ownedTupleIsFree
  refine wpAny_bind (wpAny_field hz rfl (x := rawInt T) rfl ?_)
  change wpAny _ _ (loadIfAlive ((T : Int).toNat) >>= _) _ _ _
  rw [Int.toNat_natCast]
  refine wpAny_bind (PySem.W.kdx_alive hT ?_)
  simp only [Option.isNone_some, Bool.false_eq_true, if_false]
  refine wpAny_bind (wpAny_field hz rfl (x := .bool f) rfl ?_)
  cases f with
  | true =>
    have e : (Value.bool true != Value.bool true) = false := rfl
    rw [e]
    simp only [Bool.false_eq_true, if_false]
    exact wpAny_pure (fin s.heap hz (Heap.SameBut.refl _ _))
  | false =>
    have e : (Value.bool false != Value.bool true) = true := rfl
    rw [e]
    simp only [if_true]
    refine wpAny_bind (wpAny_setField_rec hz (by simp) fun h' hz' hs' => ?_)
    exact wpAny_pure (fin h' hz' hs')
theorem more_item {Q : Value → Shared → Prop} (D : ZipApart z TI TO i1 i2 l1 l2) (hz : ZAt s.heap z TI TO (rawInt T) (.bool f)) (hT : s.heap.get? T = some oT) (hTI : IsPair s.heap TI (.ref i1) (.ref i2))
    (h1 : s.heap.IsListIter i1 l1 k1) (h2 : s.heap.IsListIter i2 l2 k2) (hl1 : s.heap.IsList l1 xs) (hl2 : s.heap.IsList l2 ys) (hx : xs[k1]? = some x) (hy : ys[k2]? = some y)
    (hQ : ∀ h', ZAt h' z TI TO (rawInt T) (.bool true) → h'.IsListIter i1 l1 (k1 + 1) → h'.IsListIter i2 l2 (k2 + 1) → IsPair h' s.heap.objs.size x y → h'.objs.size = s.heap.objs.size + 1 →
      (∀ c o, c ≠ z → c ≠ i1 → c ≠ i2 → s.heap.get? c = some o → h'.get? c = some o) → Q (.ref s.heap.objs.size) { s with heap := h' }) :
    wpAny (model prog w) A (Builtin.«zip.__next__» ⟨[.ref z], []⟩) (fun fin s' => ∃ v, fin = .done (.ret v) ∧ Q v s') E s := by
  change wpAny _ _ (field (.ref z) 2 >>= _) _ _ _
  refine wpAny_bind (wpAny_field hz rfl (x := .bool false) rfl ?_)
  change wpAny _ _ (field (.ref z) 3 >>= _) _ _ _
  refine wpAny_bind (wpAny_field hz rfl (x := .ref TI) rfl ?_)
  refine wpAny_bind (wpAny_seqItems hTI rfl ?_)
  change wpAny _ _ (Builtin.SmallTypes.ownedTupleIsFree (.ref z) >>= _) _ _ _
  refine wpAny_bind (busy hz hT fun g1 z1 s1 => ?_)
  simp only [Bool.false_eq_true, if_false]
  refine wpAny_bind ?_
  simp only [List.forIn_toArray, List.forIn_cons, List.forIn_nil]
  refine wpAny_bind (wpAny_bind (wpAny_holding ?_))
  change wpAny _ _ (Builtin.SmallTypes.nextOf (.ref i1) >>= _) _ _ _
  refine wpAny_bind (wpAny_nextOf_list_item (h1.extBut s1.extBut D.i1z) (hl1.extBut s1.extBut D.l1z) hx fun g2 n1 s2 => wpAny_pure (wpAny_pure ?_))
  dsimp only
  refine wpAny_bind (wpAny_bind (wpAny_holding ?_))
  change wpAny _ _ (Builtin.SmallTypes.nextOf (.ref i2) >>= _) _ _ _
  refine wpAny_bind (wpAny_nextOf_list_item ((h2.extBut s1.extBut D.i2z).extBut s2.extBut D.i12.symm) ((hl2.extBut s1.extBut D.l2z).extBut s2.extBut D.l2i1) hy fun g3 n2 s3 => wpAny_pure (wpAny_pure (wpAny_pure ?_)))
  refine wpAny_bind (wpAny_newTuple (hsz := by show 2 ≤ sizeLine; decide) (wpAny_pure ⟨_, rfl, ?_⟩))
  have sz : g3.objs.size = s.heap.objs.size := by rw [s3.1, s2.1, s1.1]
  have zz : ZAt g3 z TI TO (rawInt T) (.bool true) := s3.extBut _ _ D.i2z.symm (s2.extBut _ _ D.i1z.symm z1)
  have kk : ∀ c o, c ≠ z → c ≠ i1 → c ≠ i2 → s.heap.get? c = some o → g3.get? c = some o := fun c o a b d e => s3.extBut _ _ d (s2.extBut _ _ b (s1.extBut _ _ a e))
  have m1 := n1.extBut s3.extBut D.i12
  change Q (.ref g3.objs.size) _
  rw [sz]
  refine hQ _ (Heap.get?_push_of_some _ zz) (m1.at fun o e => Heap.get?_push_of_some _ e) (n2.at fun o e => Heap.get?_push_of_some _ e) ?_ ?_ fun c o a b d e => Heap.get?_push_of_some _ (kk c o a b d e)
  · rw [← sz]; exact Heap.get?_push_size _ rfl
  · rw [Heap.size_push, sz]
theorem more_end {Q : Fin → Shared → Prop} (hh : A.handled = none) (D : ZipApart z TI TO i1 i2 l1 l2) (hz : ZAt s.heap z TI TO (rawInt T) (.bool f)) (hT : s.heap.get? T = some oT) (hTI : IsPair s.heap TI (.ref i1) (.ref i2))
    (h1 : s.heap.IsListIter i1 l1 k1) (h2 : s.heap.IsListIter i2 l2 k2) (hl1 : s.heap.IsList l1 xs) (hl2 : s.heap.IsList l2 ys) (hend : xs[k1]? = none ∨ ys[k2]? = none)
    (hE : ∀ h' e, (∀ c o, c ≠ z → c ≠ i1 → c ≠ i2 → s.heap.get? c = some o → h'.get? c = some o) → (∃ o, h'.get? e = some o ∧ o.cls = .type "StopIteration") → E (.ref e) { s with heap := h' }) :
    wpAny (model prog w) A (Builtin.«zip.__next__» ⟨[.ref z], []⟩) Q E s := by
  change wpAny _ _ (field (.ref z) 2 >>= _) _ _ _
  refine wpAny_bind (wpAny_field hz rfl (x := .bool false) rfl ?_)
  change wpAny _ _ (field (.ref z) 3 >>= _) _ _ _
  refine wpAny_bind (wpAny_field hz rfl (x := .ref TI) rfl ?_)
  refine wpAny_bind (wpAny_seqItems hTI rfl ?_)
  change wpAny _ _ (Builtin.SmallTypes.ownedTupleIsFree (.ref z) >>= _) _ _ _
  refine wpAny_bind (busy hz hT fun g1 z1 s1 => ?_)
  simp only [Bool.false_eq_true, if_false]
  refine wpAny_bind ?_
  simp only [List.forIn_toArray, List.forIn_cons, List.forIn_nil]
  refine wpAny_bind (wpAny_bind (wpAny_holding ?_))
  change wpAny _ _ (Builtin.SmallTypes.nextOf (.ref i1) >>= _) _ _ _
  cases hx : xs[k1]? with
  | none =>
    exact wpAny_bind (wpAny_nextOf_list_end hh (h1.extBut s1.extBut D.i1z) (hl1.extBut s1.extBut D.l1z) hx fun g2 e s2 he => hE g2 e (fun c o a b _ q => s2 _ _ b (s1.extBut _ _ a q)) he)
  | some x =>
    have hy : ys[k2]? = none := hend.resolve_left fun h => by rw [hx] at h; cases h
    refine wpAny_bind (wpAny_nextOf_list_item (h1.extBut s1.extBut D.i1z) (hl1.extBut s1.extBut D.l1z) hx fun g2 n1 s2 => wpAny_pure (wpAny_pure ?_))
    dsimp only
    refine wpAny_bind (wpAny_bind (wpAny_holding ?_))
    change wpAny _ _ (Builtin.SmallTypes.nextOf (.ref i2) >>= _) _ _ _
    exact wpAny_bind (wpAny_nextOf_list_end hh ((h2.extBut s1.extBut D.i2z).extBut s2.extBut D.i12.symm) ((hl2.extBut s1.extBut D.l2z).extBut s2.extBut D.l2i1) hy fun g3 e s3 he =>
      hE g3 e (fun c o a b d q => s3 _ _ d (s2.extBut _ _ b (s1.extBut _ _ a q))) he)
structure ZSt (h : Heap) (z TI TO i1 i2 l1 l2 S : Addr) (xs ys : Array Value) (i : Nat) : Prop where
  at0 : ZAt h z TI TO .none (.bool false) ∨ ∃ (T : Addr) (f : Bool) (oT : Obj), ZAt h z TI TO (rawInt T) (.bool f) ∧ h.get? T = some oT ∧ T ≠ z ∧ T ≠ TO ∧ T ≠ i1 ∧ T ≠ i2 ∧ T ≠ S
  ti : IsPair h TI (.ref i1) (.ref i2)
  to : ∃ a b, IsPair h TO a b
  it1 : h.IsListIter i1 l1 i
  it2 : h.IsListIter i2 l2 i
  ls1 : h.IsList l1 xs
  ls2 : h.IsList l2 ys
theorem ZSt.keep {h h' : Heap} {S : Addr} {i : Nat} (q : ZSt h z TI TO i1 i2 l1 l2 S xs ys i) (k : ∀ c o, c ≠ S → h.get? c = some o → h'.get? c = some o) (hS : ∀ c ∈ [z, TI, TO, i1, i2, l1, l2], c ≠ S) : ZSt h' z TI TO i1 i2 l1 l2 S xs ys i where
  at0 := by
    have e := hS z (by simp)
    rcases q.at0 with a | ⟨T, f, oT, a, b, c⟩
    · exact .inl (k _ _ e a)
    · exact .inr ⟨T, f, oT, k _ _ e a, k _ _ c.2.2.2.2 b, c⟩
  ti := k _ _ (hS TI (by simp)) q.ti
  to := let ⟨a, b, e⟩ := q.to; ⟨a, b, k _ _ (hS TO (by simp)) e⟩
  it1 := q.it1.at fun o e => k _ o (hS i1 (by simp)) e
  it2 := q.it2.at fun o e => k _ o (hS i2 (by simp)) e
  ls1 := q.ls1.at fun o e => k _ o (hS l1 (by simp)) e
  ls2 := q.ls2.at fun o e => k _ o (hS l2 (by simp)) e
theorem st_item {S : Addr} {i : Nat} {Q : Option Value → Shared → Prop} (D : ZipApart z TI TO i1 i2 l1 l2) (q : ZSt s.heap z TI TO i1 i2 l1 l2 S xs ys i) (hS : S < s.heap.objs.size) (hx : xs[i]? = some x) (hy : ys[i]? = some y)
    (hQ : ∀ h', ZSt h' z TI TO i1 i2 l1 l2 S xs ys (i + 1) → IsPair h' s.heap.objs.size x y → h'.objs.size = s.heap.objs.size + 1 →
      (∀ c o, c ≠ z → c ≠ TO → c ≠ i1 → c ≠ i2 → s.heap.get? c = some o → h'.get? c = some o) → Q (some (.ref s.heap.objs.size)) { s with heap := h' }) :
    wpAny (model prog w) A (pyNext (.ref z)) Q E s := by
  have lt : ∀ {c o}, s.heap.get? c = some o → s.heap.objs.size ≠ c := fun e => Nat.ne_of_gt (Heap.lt_size e)
  obtain ⟨a, b, hTO⟩ := q.to
  have e1 : s.heap.objs.size ≠ i1 := by obtain ⟨_, e, _⟩ := q.it1; exact lt e
  have e2 : s.heap.objs.size ≠ i2 := by obtain ⟨_, e, _⟩ := q.it2; exact lt e
  rcases q.at0 with hz | ⟨T, f, oT, hz, hT, t1, t2, t3, t4, t5⟩
  · refine wpAny_pyNext_zip_item D hz q.ti hTO q.it1 q.it2 q.ls1 q.ls2 hx hy fun h' a1 a2 a3 a4 a5 a6 hk => hQ h' ⟨.inr ⟨_, false, _, a1, a5, lt hz, lt hTO, e1, e2, Nat.ne_of_gt hS⟩, ?_, ⟨_, _, a2⟩, a3, a4, ?_, ?_⟩ a5 a6 hk
    · exact hk _ _ D.TIz D.TITO D.TIi1 D.TIi2 q.ti
    · exact q.ls1.at fun o e => hk _ o D.l1z D.l1TO D.l1i1 D.l1i2 e
    · exact q.ls2.at fun o e => hk _ o D.l2z D.l2TO D.l2i1 D.l2i2 e
  · have ty : s.TypeIs (.ref z) "zip" := ⟨_, hz, rfl⟩
    unfold pyNext
    refine wpAny_bind (wpAny_attempt (wpAny_callSpecial?_slot (name := Str.ofString "__next__") ty F.slot_zip_next (wpAny_call_entry F.slot_zip_next ty F.entry_zip_next ?_ (F.args_zip_next_1 _))))
    refine more_item D hz hT q.ti q.it1 q.it2 q.ls1 q.ls2 hx hy fun h' a1 a3 a4 a5 a6 hk => wpAny_pure ?_
    refine hQ h' ⟨.inr ⟨T, true, oT, a1, hk _ _ t1 t3 t4 hT, t1, t2, t3, t4, t5⟩, ?_, ⟨a, b, ?_⟩, a3, a4, ?_, ?_⟩ a5 a6 fun c o c1 _ c3 c4 e => hk c o c1 c3 c4 e
    · exact hk _ _ D.TIz D.TIi1 D.TIi2 q.ti
    · exact hk _ _ D.TOz D.TOi1 D.TOi2 hTO
    · exact q.ls1.at fun o e => hk _ o D.l1z D.l1i1 D.l1i2 e
    · exact q.ls2.at fun o e => hk _ o D.l2z D.l2i1 D.l2i2 e
theorem st_done {S : Addr} {i : Nat} {Q : Option Value → Shared → Prop} (hh : A.handled = none) (D : ZipApart z TI TO i1 i2 l1 l2) (q : ZSt s.heap z TI TO i1 i2 l1 l2 S xs ys i) (hend : xs[i]? = none ∨ ys[i]? = none)
    (hQ : ∀ h', (∀ c o, c ≠ z → c ≠ TO → c ≠ i1 → c ≠ i2 → s.heap.get? c = some o → h'.get? c = some o) → Q none { s with heap := h' }) :
    wpAny (model prog w) A (pyNext (.ref z)) Q E s := by
  obtain ⟨a, b, hTO⟩ := q.to
  rcases q.at0 with hz | ⟨T, f, oT, hz, hT, t1, t2, t3, t4, t5⟩
  · exact wpAny_pyNext_zip_end hh D hz q.ti hTO q.it1 q.it2 q.ls1 q.ls2 hend hQ
  · have ty : s.TypeIs (.ref z) "zip" := ⟨_, hz, rfl⟩
    unfold pyNext
    refine wpAny_bind (wpAny_attempt (wpAny_callSpecial?_slot (name := Str.ofString "__next__") ty F.slot_zip_next (wpAny_call_entry F.slot_zip_next ty F.entry_zip_next ?_ (F.args_zip_next_1 _))))
    refine more_end hh D hz hT q.ti q.it1 q.it2 q.ls1 q.ls2 hend fun h' e hk he => ?_
    obtain ⟨o, ho, hc⟩ := he
    refine wpAny_bind (wpAny_isInstance (T := "StopIteration") (b := true) ⟨o, ho, hc⟩ isSubtype_stop ?_)
    exact wpAny_pure (hQ _ fun c o c1 _ c3 c4 e => hk c o c1 c3 c4 e)
end
theorem zip_no_len : typeLookup (.type "zip") "__len__" = pure none := by rw [typeLookup_type, builtinLookup_eq_fast]; kernel_rfl
theorem zip_no_hint : typeLookup (.type "zip") "__length_hint__" = pure none := by rw [typeLookup_type, builtinLookup_eq_fast]; kernel_rfl
section
variable {prog : Program} {w : World} {A : Around} {R : Result → Shared → Prop} {E : Value → Shared → Prop} {s : Shared} {z TI TO i1 i2 l1 l2 S : Addr} {xs ys : Array Value}
theorem hint {Q : Bool → Shared → Prop} (hT : s.TypeIs (.ref z) "zip") (h : Q true s) : wpAny (model prog w) A (Builtin.List.listLengthHint (.ref z)) Q E s := by
  unfold Builtin.List.listLengthHint
  refine wpAny_bind (wpAny_specialOf hT zip_no_len ?_)
  wp_delta
  refine wpAny_ite_split (fun z => absurd z (by decide)) fun _ => ?_
  refine wpAny_bind (wpAny_specialOf hT zip_no_hint ?_)
  exact wpAny_pure h
structure Made (h : Heap) (lo : Addr) (xs ys : Array Value) (as : List Addr) : Prop where
  rise : as.Pairwise (· < ·)
  above : ∀ a ∈ as, lo ≤ a
  pairs : ∀ (j : Nat) (a : Addr), as[j]? = some a → ∃ x y, xs[j]? = some x ∧ ys[j]? = some y ∧ IsPair h a x y
theorem Made.there {h : Heap} {lo : Addr} {as : List Addr} (g : Made h lo xs ys as) {a : Addr} (ha : a ∈ as) : a < h.objs.size := by
  obtain ⟨j, hj⟩ := List.mem_iff_getElem?.mp ha
  obtain ⟨_, _, _, _, e⟩ := g.pairs j a hj
  exact Heap.lt_size e
theorem Made.keep {h h' : Heap} {lo : Addr} {as : List Addr} (g : Made h lo xs ys as) (k : ∀ c o, lo ≤ c → h.get? c = some o → h'.get? c = some o) : Made h' lo xs ys as :=
  ⟨g.rise, g.above, fun j a e => by
    obtain ⟨x, y, e1, e2, e3⟩ := g.pairs j a e
    exact ⟨x, y, e1, e2, k a _ (g.above a (List.mem_of_getElem? e)) e3⟩⟩
theorem Made.more {h : Heap} {lo : Addr} {as : List Addr} {x y : Value} {b : Addr} (g : Made h lo xs ys as) (hb : IsPair h b x y) (up : ∀ a ∈ as, a < b) (hl : lo ≤ b) (hx : xs[as.length]? = some x) (hy : ys[as.length]? = some y) : Made h lo xs ys (as ++ [b]) := by
  refine ⟨List.pairwise_append.mpr ⟨g.rise, List.pairwise_singleton _ _, fun a ha c hc => by rw [List.mem_singleton.mp hc]; exact up a ha⟩, fun a ha => ?_, fun j a e => ?_⟩
  · rcases List.mem_append.mp ha with q | q
    · exact g.above a q
    · rw [List.mem_singleton.mp q]; exact hl
  · by_cases hj : j < as.length
    · rw [List.getElem?_append_left hj] at e
      exact g.pairs j a e
    · have hj' : j = as.length := by
        have := (List.getElem?_eq_some_iff.mp e).1
        rw [List.length_append, List.length_singleton] at this
        omega
      subst hj'
      have hba : b = a := by simpa using e
      subst hba
      exact ⟨x, y, hx, hy, hb⟩
theorem loop (hh : A.handled = none) (D : ZipApart z TI TO i1 i2 l1 l2) (hS : ∀ c ∈ [z, TI, TO, i1, i2, l1, l2], c ≠ S) (res : Value) (lo : Addr) (hlo : ∀ c ∈ [S, z, TI, TO, i1, i2], c < lo) (hn : xs.size ≤ sizeLine) {h₁ : Heap}
    (fin : ∀ h' tk acc c as, (∀ b o, b ∉ [S, z, TO, i1, i2] → h₁.get? b = some o → h'.get? b = some o) → h'.get? S = some { cls := .type "list", dict := none, data := .seq acc c, slots := #[] } → as.length = min xs.size ys.size → Made h' lo xs ys as →
      acc.toList = as.map Value.ref → R (.ok (.ret res)) { s with heap := h', toks := tk }) :
    ∀ (k i : Nat) (h : Heap) (tk c : Nat) (acc : Array Value) (as : List Addr), min xs.size ys.size - i = k → i ≤ min xs.size ys.size → ZSt h z TI TO i1 i2 l1 l2 S xs ys i → (∀ b o, b ∉ [S, z, TO, i1, i2] → h₁.get? b = some o → h.get? b = some o) →
      h.get? S = some { cls := .type "list", dict := none, data := .seq acc c, slots := #[] } → acc.toList = as.map Value.ref → as.length = i → Made h lo xs ys as → lo ≤ h.objs.size →
      codeAny (model prog w) A (.builtin "list.extend.loop" ⟨[.ref S, .ref z, res], []⟩) R { s with heap := h, toks := tk } := by
  have nb : ∀ {b : Addr}, b ∉ [S, z, TO, i1, i2] → b ≠ S ∧ b ≠ z ∧ b ≠ TO ∧ b ≠ i1 ∧ b ≠ i2 := fun q => by simpa [not_or] using q
  have nlo : ∀ {b : Addr}, lo ≤ b → b ≠ S ∧ b ≠ z ∧ b ≠ TO ∧ b ≠ i1 ∧ b ≠ i2 := fun q =>
    have f : ∀ c ∈ [S, z, TI, TO, i1, i2], _ := fun c hc => Nat.ne_of_gt (Nat.lt_of_lt_of_le (hlo c hc) q)
    ⟨f S (by simp), f z (by simp), f TO (by simp), f i1 (by simp), f i2 (by simp)⟩
  have Sn : S ≠ z ∧ S ≠ TO ∧ S ≠ i1 ∧ S ≠ i2 := ⟨(hS z (by simp)).symm, (hS TO (by simp)).symm, (hS i1 (by simp)).symm, (hS i2 (by simp)).symm⟩
  intro k
  induction k with
  | zero =>
    intro i h tk c acc as hk hi st kp hSo hacc hal G hsz
    have hend : xs[i]? = none ∨ ys[i]? = none := by
      have e : i = min xs.size ys.size := by omega
      rcases Nat.le_total xs.size ys.size with q | q
      · exact .inl (Array.getElem?_eq_none (by omega))
      · exact .inr (Array.getElem?_eq_none (by omega))
    refine codeAny_builtin PySem.F.entry_extend_loop ?_
    rw [Around.under_plainId PySem.F.plain_extend_loop _]
    change wpAny _ A.in1 (pyNext (.ref z) >>= _) _ _ _
    refine wpAny_bind (st_done (s := { s with heap := h, toks := tk }) (A := A.in1) hh D st hend fun h' he => ?_)
    exact wpAny_pure (fin h' tk acc c as (fun b o q e => he b o (nb q).2.1 (nb q).2.2.1 (nb q).2.2.2.1 (nb q).2.2.2.2 (kp b o q e)) (he S _ Sn.1 Sn.2.1 Sn.2.2.1 Sn.2.2.2 hSo) (by omega)
      (G.keep fun b o q e => he b o (nlo q).2.1 (nlo q).2.2.1 (nlo q).2.2.2.1 (nlo q).2.2.2.2 e) hacc)
  | succ k ih =>
    intro i h tk c acc as hk hi st kp hSo hacc hal G hsz
    have l1' : i < xs.size := by omega
    have l2' : i < ys.size := by omega
    have asz : acc.size = i := by rw [← Array.length_toList, hacc, List.length_map, hal]
    refine codeAny_builtin PySem.F.entry_extend_loop ?_
    rw [Around.under_plainId PySem.F.plain_extend_loop _]
    change wpAny _ A.in1 (pyNext (.ref z) >>= _) _ _ _
    refine wpAny_bind (st_item (s := { s with heap := h, toks := tk }) (A := A.in1) D st (Heap.lt_size hSo) (Array.getElem?_eq_getElem l1') (Array.getElem?_eq_getElem l2') fun h' st' ht hz hkp => ?_)
    dsimp only at ht hz hkp ⊢
    have hS' := hkp S _ Sn.1 Sn.2.1 Sn.2.2.1 Sn.2.2.2 hSo
    have up : ∀ b o, b ≠ S → h'.get? b = some o → (h'.update S (Obj.mapSeq (·.push (Value.ref h.objs.size)))).get? b = some o := fun b o hb e => (Heap.get?_update_other _ _ (Ne.symm hb)).trans e
    have hSl : S < h.objs.size := Heap.lt_size hSo
    change wpAny _ A.in1 (updateSeq S (·.push (Value.ref h.objs.size)) >>= _) _ _ _
    refine wpAny_bind ?_
    have G1 : Made (h'.update S (Obj.mapSeq (·.push (Value.ref h.objs.size)))) lo xs ys (as ++ [h.objs.size]) := by
      have g0 : Made (h'.update S (Obj.mapSeq (·.push (Value.ref h.objs.size)))) lo xs ys as := G.keep fun b o q e => up b o (nlo q).1 (hkp b o (nlo q).2.1 (nlo q).2.2.1 (nlo q).2.2.2.1 (nlo q).2.2.2.2 e)
      refine g0.more (up _ _ (Nat.ne_of_gt hSl) ht) (fun a ha => G.there ha) hsz ?_ ?_
      · rw [hal]; exact Array.getElem?_eq_getElem l1'
      · rw [hal]; exact Array.getElem?_eq_getElem l2'
    refine wpAny_updateSeq hS' rfl (wpAny_pure ⟨plainId_quiet PySem.F.plain_extend_loop _, ih (i + 1) _ tk _ (acc.push (Value.ref h.objs.size)) (as ++ [h.objs.size]) (by omega) (by omega) (st'.keep (fun c o q e => up c o q e) hS) (fun b o q e => up b o (nb q).1 (hkp b o (nb q).2.1 (nb q).2.2.1 (nb q).2.2.2.1 (nb q).2.2.2.2 (kp b o q e))) (Heap.get?_update_self _ hS' rfl) (by rw [Array.toList_push, hacc, List.map_append]; rfl) (by rw [List.length_append, hal]; rfl) G1 ?_⟩) (by rw [asz]; omega) (by show (acc.push (Value.ref h.objs.size)).size ≤ sizeLine + 1; rw [Array.size_push, asz]; omega)
    exact Nat.le_trans hsz (Nat.le_of_lt (Heap.lt_size (up _ _ (Nat.ne_of_gt hSl) ht)))
theorem extend (hh : A.handled = none) (D : ZipApart z TI TO i1 i2 l1 l2) (hS : ∀ c ∈ [z, TI, TO, i1, i2, l1, l2], c ≠ S) (res : Value) (hn : xs.size ≤ sizeLine) {c₀ : Nat} (st : ZSt s.heap z TI TO i1 i2 l1 l2 S xs ys 0) (hSo : s.heap.get? S = some { cls := .type "list", data := .seq #[] c₀ })
    (fin : ∀ h' tk acc c as, (∀ b o, b ∉ [S, z, TO, i1, i2] → s.heap.get? b = some o → h'.get? b = some o) → h'.get? S = some { cls := .type "list", dict := none, data := .seq acc c, slots := #[] } → as.length = min xs.size ys.size → Made h' s.heap.objs.size xs ys as →
      acc.toList = as.map Value.ref → R (.ok (.ret res)) { s with heap := h', toks := tk }) :
    wpAny (model prog w) A.in1 (Builtin.List.listExtendWith (.ref S) (.ref z) res)
      (fun fin s' => match fin with | .done f => R (.ok f) s' | .again c' => c'.quiet = true ∧ codeAny (model prog w) A c' R s') (fun e s' => R (.error e) s') s := by
  have zt : ∃ f0 f1, ZAt s.heap z TI TO f0 f1 := by
    rcases st.at0 with a | ⟨T, f, oT, a, _⟩
    · exact ⟨_, _, a⟩
    · exact ⟨_, _, a⟩
  obtain ⟨f0, f1, hz⟩ := zt
  obtain ⟨ta, tb, hTO⟩ := st.to
  have ty : s.TypeIs (.ref z) "zip" := ⟨_, hz, rfl⟩
  have hlo : ∀ c ∈ [S, z, TI, TO, i1, i2], c < s.heap.objs.size := fun c hc => by
    have a1 := Heap.lt_size hSo
    have a2 := Heap.lt_size hz
    have a3 := Heap.lt_size st.ti
    have a4 := Heap.lt_size hTO
    obtain ⟨_, e1, _⟩ := st.it1
    obtain ⟨_, e2, _⟩ := st.it2
    have a5 := Heap.lt_size e1
    have a6 := Heap.lt_size e2
    simp only [List.mem_cons, List.not_mem_nil, or_false] at hc
    rcases hc with rfl | rfl | rfl | rfl | rfl | rfl <;> assumption
  unfold Builtin.List.listExtendWith
  refine wpAny_bind (wpAny_typeOf ty ?_)
  have n1 : Builtin.List.listSameRef (.ref S) (.ref z) = false := by
    simp only [Builtin.List.listSameRef, beq_eq_false_iff_ne]
    exact (hS z (by simp)).symm
  have n2 : (Value.type "zip" == Value.type "list") = false := by decide
  have n3 : (Value.type "zip" == Value.type "tuple") = false := by decide
  simp only [n1, n2, n3, Bool.or_false, Bool.false_eq_true, if_false]
  have it : ∀ {Q : Value → Shared → Prop}, Q (.ref z) s → wpAny (model prog w) A.in1 (pyIter (.ref z)) Q (fun e s' => R (.error e) s') s := fun q => by
    refine wpAny_pyIter_slot ty F.slot_zip_iter (wpAny_call_entry F.slot_zip_iter ty F.entry_zip_iter ?_ (F.args_zip_iter_1 _))
    change wpAny _ _ (ret (.ref z)) _ _ s
    exact wpAny_pure ⟨_, rfl, "zip", _, ty, F.slot_zip_next.lookup, q⟩
  refine wpAny_bind (it ?_)
  refine wpAny_bind (wpAny_holding (hint ty ?_))
  simp only [Bool.true_or, if_true]
  refine wpAny_bind (wpAny_rule (wpAny_bind (m := Builtin.List.listTouch (.ref S)) ?_))
  change wpAny (model prog w) _ (updateSeq S (·.push .none) >>= fun _ => updateSeq S (·.pop)) _ _ _
  refine wpAny_bind (wpAny_updateSeq hSo rfl ?_)
  have u1 := Heap.get?_update_self (Obj.mapSeq (·.push Value.none)) hSo rfl
  refine wpAny_updateSeq (hz := by seq_fits) u1 rfl ?_
  have u2 := Heap.get?_update_self (Obj.mapSeq (·.pop)) u1 rfl
  have other : ∀ b ob, b ≠ S → s.heap.get? b = some ob → ((s.heap.update S (Obj.mapSeq (·.push Value.none))).update S (Obj.mapSeq (·.pop))).get? b = some ob := fun b ob q e => (Heap.get?_update_other _ _ (Ne.symm q)).trans ((Heap.get?_update_other _ _ (Ne.symm q)).trans e)
  refine wpAny_pure ⟨plainId_quiet PySem.F.plain_extend_loop _, ?_⟩
  exact loop (h₁ := s.heap) (s := s) hh D hS res s.heap.objs.size hlo hn fin _ 0 _ s.toks _ #[] [] rfl (Nat.zero_le _) (st.keep (fun c o q e => other c o q e) hS) (fun b o q e => other b o (fun e' => q (by rw [e']; exact List.mem_cons_self)) e) u2 rfl rfl
    ⟨List.Pairwise.nil, (fun _ ha => nomatch ha), fun j a hj => by simp at hj⟩ (by rw [Heap.size_update, Heap.size_update]; exact Nat.le_refl _)
theorem call_list {Q : Value → Shared → Prop} (hh : A.handled = none) (D : ZipApart z TI TO i1 i2 l1 l2) (hn : xs.size ≤ sizeLine) (hz : IsZip s.heap z TI TO .none) (hTI : IsPair s.heap TI (.ref i1) (.ref i2)) {a b : Value} (hTO : IsPair s.heap TO a b)
    (h1 : s.heap.IsListIter i1 l1 0) (h2 : s.heap.IsListIter i2 l2 0) (hl1 : s.heap.IsList l1 xs) (hl2 : s.heap.IsList l2 ys)
    (fin : ∀ h' tk acc c as, (∀ b o, b ∉ [z, TO, i1, i2] → s.heap.get? b = some o → h'.get? b = some o) → h'.get? s.heap.objs.size = some { cls := .type "list", dict := none, data := .seq acc c, slots := #[] } → as.length = min xs.size ys.size → Made h' (s.heap.objs.size + 1) xs ys as →
      acc.toList = as.map Value.ref → Q (.ref s.heap.objs.size) { s with heap := h', toks := tk }) :
    wpAny (model prog w) A (call (.type "list") [.ref z]) Q E s := by
  have lt : ∀ {c o}, s.heap.get? c = some o → c ≠ s.heap.objs.size := fun e => Nat.ne_of_lt (Heap.lt_size e)
  have pu : ∀ {c o}, s.heap.get? c = some o → (s.heap.push { cls := .type "list", data := .seq #[] }).get? c = some o := fun e => Heap.get?_push_of_some _ e
  have hS : ∀ c ∈ [z, TI, TO, i1, i2, l1, l2], c ≠ s.heap.objs.size := fun c hc => by
    obtain ⟨_, e1, _⟩ := id h1
    obtain ⟨_, e2, _⟩ := id h2
    obtain ⟨_, e3, _⟩ := id hl1
    obtain ⟨_, e4, _⟩ := id hl2
    simp only [List.mem_cons, List.not_mem_nil, or_false] at hc
    rcases hc with rfl | rfl | rfl | rfl | rfl | rfl | rfl
    · exact lt hz
    · exact lt hTI
    · exact lt hTO
    · exact lt e1
    · exact lt e2
    · exact lt e3
    · exact lt e4
  refine callType_codes (Q₁ := fun obj s₁ => obj = .ref s.heap.objs.size ∧ s₁ = { s with heap := s.heap.push { cls := .type "list", data := .seq #[] } }) PySem.F.called_list (PySem.F.typeCall_list_1 _) PySem.F.entry_list_init
    (code_list_new _ ⟨rfl, rfl⟩) fun obj s₁ q => ?_
  obtain ⟨rfl, rfl⟩ := q
  have at1 : (s.heap.push { cls := .type "list", data := .seq #[] }).get? s.heap.objs.size = some { cls := .type "list", data := .seq #[] } := Heap.get?_push_size _ rfl
  refine ⟨⟨_, at1, rfl⟩, PySem.F.args_list_init_2 _ _, ?_⟩
  change wpAny _ _ (do let old ← Builtin.List.listItems (.ref s.heap.objs.size); Builtin.List.listUpdate (.ref s.heap.objs.size) (fun _ => #[]); letGo old.toList.reverse; Builtin.List.listExtendWith (.ref s.heap.objs.size) (.ref z) .none) _ _ _
  refine wpAny_bind ?_
  unfold Builtin.List.listItems
  refine wpAny_bind (wpAny_seqItems at1 rfl (wpAny_pure ?_))
  change wpAny _ _ (updateSeq s.heap.objs.size (fun _ => #[]) >>= fun _ => letGo (#[] : Array Value).toList.reverse >>= fun _ => Builtin.List.listExtendWith (.ref s.heap.objs.size) (.ref z) .none) _ _ _
  refine wpAny_bind (wpAny_updateSeq at1 rfl ?_)
  have at2 := Heap.get?_update_self (Obj.mapSeq (fun _ => (#[] : Array Value))) at1 rfl
  have oth : ∀ b o, s.heap.get? b = some o → ((s.heap.push { cls := .type "list", data := .seq #[] }).update s.heap.objs.size (Obj.mapSeq (fun _ => (#[] : Array Value)))).get? b = some o :=
    fun b o e => (Heap.get?_update_other _ _ (Ne.symm (lt e))).trans (pu e)
  refine wpAny_bind (wpAny_letGo ?_)
  refine extend (A := A.in1) hh D hS .none hn ⟨.inl (oth _ _ hz), oth _ _ hTI, ⟨a, b, oth _ _ hTO⟩, h1.at fun o e => oth _ o e, h2.at fun o e => oth _ o e, hl1.at fun o e => oth _ o e, hl2.at fun o e => oth _ o e⟩ at2 fun h' tk acc c as k1 k2 k3 k4 k5 => ?_
  refine ⟨rfl, fin h' tk acc c as (fun b o q e => k1 b o (fun m => ?_) (oth b o e)) k2 k3 ?_ k5⟩
  · rcases List.mem_cons.mp m with m | m
    · exact lt e m
    · exact q m
  · have e : ((s.heap.push { cls := .type "list", data := .seq #[] }).update s.heap.objs.size (Obj.mapSeq (fun _ => (#[] : Array Value)))).objs.size = s.heap.objs.size + 1 := by rw [Heap.size_update, Heap.size_push]
    rw [← e]; exact k4
end
end ZipL
set_option Elab.async false
set_option linter.all false
set_option maxRecDepth 100000
namespace L2
open PySem PySem.Spec PyProof.Rows
section
variable {X : Cx} {pins : List (Addr × Obj)} {σ : St} {H H' : Hp} {s : Shared} {h' : Heap}
theorem Inv.lays {t' : Nat} (I : Inv X pins σ H s) (k : ∀ b u, s.heap.get? b = some u → h'.get? b = some u) (old : ∀ b, b < s.heap.objs.size → H' b = H b)
    (new : ∀ b o, s.heap.objs.size ≤ b → H' b = some o → ObjOk X.prog X.w H' h' b o) : Inv X pins σ H' { s with heap := h', toks := t' } := by
  have up : ∀ b o, H b = some o → H' b = some o := fun b o e => by rw [old b (I.hok.lt e)]; exact e
  refine I.un ⟨fun b o e _ _ _ => k b o e, fun b o e _ _ _ => ⟨o.slots, k b o e⟩, fun b o e n _ => by rw [old b (Heap.lt_size e)]; exact n, fun b o e _ => ⟨o, k b o e⟩, fun b xs e => up b _ e, fun b o u e => up b _ e, fun b ps e => ⟨#[], by rw [up b _ e]; simp⟩⟩ fun b o e => ?_
  by_cases hb : b < s.heap.objs.size
  · rw [old b hb] at e
    exact (I.hok b o e).stay (fun c u _ q => k c u q) (fun c q => up c _ q) fun c xs q => up c _ q
  · exact new b o (Nat.le_of_not_lt hb) e
end
def AtPairs (H : Hp) : List Addr → List V → List V → Prop
  | [], xs, ys => xs = [] ∨ ys = []
  | a :: as, xs, ys => ∃ x xr y yr, xs = x :: xr ∧ ys = y :: yr ∧ H a = some (.tup [x, y]) ∧ AtPairs H as xr yr
theorem AtPairs.of {H : Hp} : ∀ {as : List Addr} {xs ys : List V}, as.length = min xs.length ys.length → (∀ (j : Nat) (a : Addr), as[j]? = some a → ∃ x y, xs[j]? = some x ∧ ys[j]? = some y ∧ H a = some (.tup [x, y])) → AtPairs H as xs ys
  | [], xs, ys, hl, _ => by
    cases xs with
    | nil => exact .inl rfl
    | cons x xr =>
      cases ys with
      | nil => exact .inr rfl
      | cons y yr => simp at hl
  | a :: as, xs, ys, hl, h => by
    cases xs with
    | nil => simp at hl
    | cons x xr =>
      cases ys with
      | nil => simp at hl
      | cons y yr =>
        obtain ⟨x', y', e1, e2, e3⟩ := h 0 a rfl
        simp only [List.getElem?_cons_zero, Option.some.injEq] at e1 e2
        subst e1 e2
        refine ⟨x, xr, y, yr, rfl, rfl, e3, AtPairs.of (by simp only [List.length_cons] at hl; omega) fun j b e => ?_⟩
        obtain ⟨x'', y'', q1, q2, q3⟩ := h (j + 1) b (by simpa using e)
        exact ⟨x'', y'', by simpa using q1, by simpa using q2, q3⟩
def layP (H : Hp) (n : Nat) (l : Addr) (as : List Addr) (xs ys : List V) : Hp := fun b =>
  if b < n then H b else if b = l then some (.lst (as.map V.ref)) else if b ∈ as then some (.tup [xs.getD (as.idxOf b) .non, ys.getD (as.idxOf b) .non]) else none
theorem same_ix {as : List Addr} {i j : Nat} {c : Addr} (r : as.Pairwise (· < ·)) (h : as[i]? = some c) (h' : as[j]? = some c) : i = j := by
  obtain ⟨h1, e1⟩ := List.getElem?_eq_some_iff.mp h
  obtain ⟨h2, e2⟩ := List.getElem?_eq_some_iff.mp h'
  have q := List.pairwise_iff_getElem.mp r
  rcases Nat.lt_trichotomy i j with z | z | z
  · have := q i j h1 h2 z
    rw [e1, e2] at this
    exact absurd this (Nat.lt_irrefl _)
  · exact z
  · have := q j i h2 h1 z
    rw [e1, e2] at this
    exact absurd this (Nat.lt_irrefl _)
theorem ix_same {as : List Addr} {j : Nat} {c : Addr} (r : as.Pairwise (· < ·)) (h : as[j]? = some c) : as.idxOf c = j := by
  have m : c ∈ as := List.mem_of_getElem? h
  have hl := List.idxOf_lt_length_of_mem m
  exact same_ix r (by rw [List.getElem?_eq_getElem hl, List.getElem_idxOf hl]) h
theorem vals_at : ∀ {xs : List V} {us : List Value} {j : Nat} {u : Value}, Vals xs us → us[j]? = some u → RelV (xs.getD j .non) u
  | _, _, _, _, .nil, e => by simp at e
  | _, _, 0, _, .cons r _, e => by simp at e; subst e; exact r
  | _, _, j + 1, _, .cons _ t, e => by
    have := vals_at (j := j) t (by simpa using e)
    simpa using this
theorem vals_refs : ∀ as : List Addr, Vals (as.map V.ref) (as.map Value.ref)
  | [] => .nil
  | a :: as => .cons rfl (vals_refs as)
def tZip (K : PySem.W.Frag) (t : TA) : TE := fun σ H Q => t σ H fun vs H1 => ∃ p q xs ys, vs = [.ref p, .ref q] ∧ SqL K H1 p xs ∧ SqL K H1 q ys ∧
  ∀ (l : Addr) (as : List Addr) (H' : Hp), H1 l = none → Same H1 H' → H' l = some (.lst (as.map V.ref)) → AtPairs H' as xs ys → Q (.ref l) H'
section
variable {X : Cx} {x y : Str} {p p2 pos pos2 : Pos} {a b : Expr} {t : TA}
theorem pe_listZip (hc : X.calm = true) (hg : Gl X "list") (hm : X.mg "list" = none) (hgz : Gl X "zip") (hmz : X.mg "zip" = none) (ha : PA X [a, b] t)
    (he : starEach [.Call (.Name "zip" p2) [a, b] [] pos2] X.env = [(false, eval (.Call (.Name "zip" p2) [a, b] [] pos2) X.env)] := by rfl)
    (he2 : starEach [a, b] X.env = (false, eval a X.env) :: starEach [b] X.env := by rfl) (hpl : (backTo pos2 (starEach [b] X.env)).any (·.1) = false := by rfl) :
    PE X (.Call (.Name "list" p) [.Call (.Name "zip" p2) [a, b] [] pos2] [] pos) (tZip X.K t) := by
  intro pins s σ H Q I h
  refine wpAny_Call_Name_kw (ld_blt I hg hm (by decide +kernel : bootBuiltins "list" = some (.type "list")) ?_ (by decide) (by decide))
  refine PyProof.Rows.callWith_type1 ?_ he rfl
  rw [he]
  change wpAny _ _ (spliced ((false, eval (.Call (.Name "zip" p2) [a, b] [] pos2) X.env) :: [])) _ _ s
  refine Calls.spliced_cons ?_
  refine wpAny_Call_Name_kw (ld_blt I hgz hmz (by decide +kernel : bootBuiltins "zip" = some (.type "zip")) ?_ (by decide) (by decide))
  refine PyProof.Rows.callWith_type1 (thn (ha pos2 pins s σ H _ I h) fun us s1 ⟨vs, H1, I1, r1, q1⟩ => ?_) he2 hpl
  obtain ⟨l1, l2, xs, ys, rfl, hx, hy, q⟩ := q1
  obtain ⟨u1, u2, rfl, e1, e2⟩ := vals2 r1
  cases e1
  cases e2
  obtain ⟨is1, v1, pl1, z1⟩ := I1.list hx
  obtain ⟨is2, v2, pl2, z2⟩ := I1.list hy
  have n1 : l1 < s1.heap.objs.size := by obtain ⟨_, e, _⟩ := pl1.isList; exact Heap.lt_size e
  have n2 : l2 < s1.heap.objs.size := by obtain ⟨_, e, _⟩ := pl2.isList; exact Heap.lt_size e
  refine call_zip_2 pl1.isList pl2.isList fun h2 b1 b2 b3 b4 b5 b6 k2 => ?_
  refine Calls.spliced_nil ?_
  refine ZipL.call_list (s := { s1 with heap := h2 }) (I1.ok.hd hc) (zipApart_new n1 n2) (by rw [List.size_toArray, ← v1.length]; exact z1) b1 b2 b3 b4 b5 (pl1.isList.at fun o e => k2 _ o e) (pl2.isList.at fun o e => k2 _ o e) fun h3 tk acc cc as k3 at3 al mk hacc => ?_
  dsimp only at at3 mk k3
  rw [b6] at at3 mk
  have kk : ∀ c o, s1.heap.get? c = some o → h3.get? c = some o := fun c o e => by
    refine k3 c o (fun m => ?_) (k2 c o e)
    simp only [List.mem_cons, List.not_mem_nil, or_false] at m
    rcases m with m | m | m | m
    · exact Nat.ne_of_lt (Nat.lt_of_lt_of_le (Heap.lt_size e) (Nat.le_add_right _ _)) m
    · exact Nat.ne_of_lt (Nat.lt_of_lt_of_le (Heap.lt_size e) (Nat.le_add_right _ _)) m
    · exact Nat.ne_of_lt (Heap.lt_size e) m
    · exact Nat.ne_of_lt (Nat.lt_of_lt_of_le (Heap.lt_size e) (Nat.le_add_right _ _)) m
  have lz : as.length ≤ sizeLine := by
    rw [al]
    exact Nat.le_trans (Nat.min_le_left _ _) (by rw [List.size_toArray, ← v1.length]; exact z1)
  have new : ∀ c o, s1.heap.objs.size ≤ c → layP H1 s1.heap.objs.size (s1.heap.objs.size + 5) as xs ys c = some o → ObjOk X.prog X.w (layP H1 s1.heap.objs.size (s1.heap.objs.size + 5) as xs ys) h3 c o := fun c o hc' e => by
    unfold layP at e
    rw [if_neg (Nat.not_lt_of_le hc')] at e
    by_cases hl : c = s1.heap.objs.size + 5
    · rw [if_pos hl] at e
      cases e
      refine ⟨by rw [List.length_map]; exact lz, acc.toList, cc, ?_, ?_⟩
      · rw [hacc]
        exact vals_refs as
      · rw [hl]
        exact at3
    · rw [if_neg hl] at e
      by_cases hm' : c ∈ as
      · rw [if_pos hm'] at e
        cases e
        obtain ⟨j, hj⟩ := List.mem_iff_getElem?.mp hm'
        obtain ⟨x, y, g1, g2, g3⟩ := mk.pairs j c hj
        rw [ix_same mk.rise hj]
        refine ⟨by show 2 ≤ sizeLine; decide, [x, y], .cons (vals_at v1 (by simpa using g1)) (.cons (vals_at v2 (by simpa using g2)) .nil), ⟨_, g3, rfl, _, rfl⟩⟩
      · rw [if_neg hm'] at e
        cases e
  have J := I1.lays (H' := layP H1 s1.heap.objs.size (s1.heap.objs.size + 5) as xs ys) (t' := tk) kk (fun c hc' => by unfold layP; rw [if_pos hc']) new
  have nl : ¬ (s1.heap.objs.size + 5 < s1.heap.objs.size) := Nat.not_lt_of_le (Nat.le_add_right _ _)
  refine ⟨.ref (s1.heap.objs.size + 5), _, J, by rw [b6]; rfl, q _ as _ (I1.hok.fresh (Nat.le_add_right _ _)) (fun c o e => ?_) ?_ (AtPairs.of ?_ fun j a hj => ?_)⟩
  · unfold layP
    rw [if_pos (I1.hok.lt e)]
    exact e
  · unfold layP
    rw [if_neg nl, if_pos rfl]
  · rw [al, List.size_toArray, List.size_toArray, v1.length, v2.length]
  · have ab := mk.above a (List.mem_of_getElem? hj)
    obtain ⟨x, y, g1, g2, g3⟩ := mk.pairs j a hj
    have c1 : j < xs.length := by rw [v1.length]; have := (Array.getElem?_eq_some_iff.mp g1).1; simpa using this
    have c2 : j < ys.length := by rw [v2.length]; have := (Array.getElem?_eq_some_iff.mp g2).1; simpa using this
    refine ⟨xs[j], ys[j], List.getElem?_eq_getElem c1, List.getElem?_eq_getElem c2, ?_⟩
    unfold layP
    have a1 : s1.heap.objs.size + 5 < a := Nat.lt_of_lt_of_le (Nat.lt_succ_self _) ab
    rw [if_neg (Nat.not_lt_of_le (Nat.le_trans (Nat.le_add_right _ _) (Nat.le_of_lt a1))), if_neg (Nat.ne_of_gt a1), if_pos (List.mem_of_getElem? hj), ix_same mk.rise hj, List.getD_eq_getElem?_getD, List.getD_eq_getElem?_getD, List.getElem?_eq_getElem c1, List.getElem?_eq_getElem c2]
    rfl
theorem strsAre_of {ss : List Str} : ∀ {us : List Value}, Vals (ss.map V.str) us → StrsAre us ss := by
  induction ss with
  | nil => intro us r; cases r; exact .nil
  | cons x xs ih =>
    intro us r
    cases r with
    | cons e t =>
      obtain ⟨tk, rfl⟩ := e
      exact .cons x tk (ih t)
def rJoin (K : PySem.W.Frag) : V → List V → Hp → VK → Prop := fun x vs H Q => ∃ (sep : Str) (p : Addr) (ss : List Str), x = .str sep ∧ vs = [.ref p] ∧ SqL K H p (ss.map V.str) ∧ (ss.map (·.length)).sum + ss.length * sep.length ≤ 16777216 ∧ Q (.str (Txt.join sep ss)) H
theorem mt_join : MtM X "str.join" (rJoin X.K) := by
  intro pins s σ H x vs v us Q I rx rv h
  obtain ⟨sep, p, ss, rfl, rfl, hq, hz, q⟩ := h
  obtain ⟨t, rfl⟩ := rx
  obtain ⟨u, rfl, ru⟩ := rv.one
  cases ru
  obtain ⟨its, r, pl, _⟩ := I.list hq
  exact join_list pl.isList (strsAre_of r) hz fun t' k => ⟨.str _, H, I.tok _, ⟨t', rfl⟩, q⟩
end
end L2
set_option Elab.async false
set_option linter.all false
set_option maxRecDepth 100000
namespace L2
open PySem PySem.Spec PyProof.Rows
def Fn (P : Program) (w : World) (K : PySem.W.Frag) (mg : Str → Option Value) (base : Heap) (k : Nat) (x : Str) (ps : List Str) (sp : Sp) : Prop :=
  ∃ f fd, FnOk P w K mg base CX0 k f fd ps sp ∧ Binds K fd ps [] ∧ PySem.W.keepIn K (.ref f) = true ∧ mg x = some (.ref f)
section
variable {X : Cx} {k : Nat} {x : Str} {ps : List Str} {sp : Sp} {p pos : Pos} {e : Expr} {es : List Expr} {t : TA}
theorem pe_callF (G : Fn X.prog X.w X.K X.mg X.base k x ps sp) (hr : Room k X.A) (hg : Gl X x) (ha : PA X (e :: es) t) (hdb : (x == ("__debug__" : Str)) = false := by decide)
    (he : starEach (e :: es) X.env = (false, eval e X.env) :: starEach es X.env := by rfl) (hpl : (backTo pos (starEach es X.env)).any (·.1) = false := by rfl) :
    PE X (.Call (.Name x p) (e :: es) [] pos) (tCall sp [] E0 t) := by
  obtain ⟨f, fd, F, b, kp, m⟩ := G
  exact pe_call F hr hg m kp b .nil pass0 ha hdb he hpl
theorem FnOk.any {P : Program} {w : World} {K : PySem.W.Frag} {mg : Str → Option Value} {base : Heap} {CX : CXT} {k : Nat} {f : Addr} {fd : FuncData} {ps : List Str} {ι : Type} {C : ι → Prop} {sp : ι → Sp} (h : ∀ i, C i → FnOk P w K mg base CX k f fd ps (sp i)) :
    FnOk P w K mg base CX k f fd ps (fun vs H Q E => ∃ i, C i ∧ sp i vs H Q E) :=
  ⟨fun vs H Q E ⟨i, c, q⟩ => (h i c).len vs H Q E q, fun A outer s H args us vs Q E hr he hb hv ⟨i, c, q⟩ => (h i c).run A outer s H args us vs Q E hr he hb hv q⟩
end
def Up (K : PySem.W.Frag) (H H' : Hp) : Prop := ∀ a xs, SqT K H a xs → SqT K H' a xs
theorem Up.refl {K : PySem.W.Frag} (H : Hp) : Up K H H := fun _ _ h => h
theorem Up.trans {K : PySem.W.Frag} {H H1 H2 : Hp} (a : Up K H H1) (b : Up K H1 H2) : Up K H H2 := fun c xs h => b c xs (a c xs h)
theorem Same.up {K : PySem.W.Frag} {H H' : Hp} (e : Same H H') : Up K H H' := fun a xs h => by
  rcases h with (h | ⟨o, h⟩) | h
  · exact .inl (.inl (e _ _ h))
  · exact .inl (.inr ⟨o, e _ _ h⟩)
  · exact .inr h
theorem Same.put {H H1 : Hp} {p : Addr} {o : HO} (e : Same H H1) (h : H p = none) : Same H (upd H1 p o) := fun b u q => by
  rw [upd_ne (ne_of_none q h)]; exact e b u q
mutual
def noL : D → Bool
  | .tup xs => noLs xs
  | .lst _ => false
  | _ => true
def noLs : List D → Bool
  | [] => true
  | d :: ds => noL d && noLs ds
end
mutual
theorem IsD.up {K : PySem.W.Frag} {H H' : Hp} (u : Up K H H') : ∀ (d : D) (v : V), noL d = true → IsD K H d v → IsD K H' d v
  | .non, v, _, h => h
  | .bl b, v, _, h => h
  | .int i, v, _, h => h
  | .str x, v, _, h => h
  | .tup ds, v, n, h => by
    obtain ⟨a, vs, e, q, r⟩ := h
    exact ⟨a, vs, e, u a vs q, AreD.up u ds vs (by simpa [noL] using n) r⟩
  | .lst ds, v, n, h => by simp [noL] at n
theorem AreD.up {K : PySem.W.Frag} {H H' : Hp} (u : Up K H H') : ∀ (ds : List D) (vs : List V), noLs ds = true → AreD K H ds vs → AreD K H' ds vs
  | [], vs, _, h => h
  | d :: ds, vs, n, h => by
    obtain ⟨v, r, e, q, t⟩ := h
    have n' : noL d = true ∧ noLs ds = true := by simpa [noLs] using n
    exact ⟨v, r, e, IsD.up u d v n'.1 q, AreD.up u ds r n'.2 t⟩
end
theorem noLs_all : ∀ {ds : List D}, (∀ d ∈ ds, noL d = true) → noLs ds = true
  | [], _ => rfl
  | d :: ds, h => by
    simp only [noLs, Bool.and_eq_true]
    exact ⟨h d List.mem_cons_self, noLs_all fun e m => h e (List.mem_cons_of_mem _ m)⟩
theorem noLs_mem : ∀ {ds : List D} {d : D}, noLs ds = true → d ∈ ds → noL d = true
  | e :: ds, d, h, m => by
    have h' : noL e = true ∧ noLs ds = true := by simpa [noLs] using h
    rcases List.mem_cons.mp m with rfl | m
    · exact h'.1
    · exact noLs_mem h'.2 m
theorem AreD.append {K : PySem.W.Frag} {H : Hp} : ∀ {ds es : List D} {vs ws : List V}, AreD K H ds vs → AreD K H es ws → AreD K H (ds ++ es) (vs ++ ws)
  | [], es, vs, ws, h, h' => by
    have e : vs = [] := h
    subst e
    exact h'
  | d :: ds, es, vs, ws, h, h' => by
    obtain ⟨v, r, e, q, t⟩ := h
    subst e
    exact ⟨v, r ++ ws, rfl, q, AreD.append t h'⟩
theorem AreD.one {K : PySem.W.Frag} {H : Hp} {d : D} {v : V} (h : IsD K H d v) : AreD K H [d] [v] := ⟨v, [], rfl, h, rfl⟩
theorem AreD.two {K : PySem.W.Frag} {H : Hp} {d e : D} {v u : V} (h : IsD K H d v) (h' : IsD K H e u) : AreD K H [d, e] [v, u] := ⟨v, [u], rfl, h, u, [], rfl, h', rfl⟩
theorem AreD.take {K : PySem.W.Frag} {H : Hp} : ∀ {ds : List D} {vs : List V} (n : Nat), AreD K H ds vs → AreD K H (ds.take n) (vs.take n)
  | ds, vs, 0, _ => rfl
  | [], vs, n + 1, h => by
    have e : vs = [] := h
    subst e
    rfl
  | d :: ds, vs, n + 1, h => by
    obtain ⟨v, r, e, q, t⟩ := h
    subst e
    exact ⟨v, r.take n, rfl, q, AreD.take n t⟩
def pairsD : List D → List D → List D
  | a :: as, b :: bs => .tup [a, b] :: pairsD as bs
  | _, _ => []
theorem AreD.pairs {K : PySem.W.Frag} {H : Hp} : ∀ {as : List Addr} {xs ys : List V} {ds es : List D}, AtPairs H as xs ys → AreD K H ds xs → AreD K H es ys → AreD K H (pairsD ds es) (as.map V.ref)
  | [], xs, ys, ds, es, h, h1, h2 => by
    rcases (show xs = [] ∨ ys = [] from h) with e | e
    · subst e
      cases ds with
      | nil => rfl
      | cons d ds => obtain ⟨_, _, e, _⟩ := h1; cases e
    · subst e
      cases es with
      | nil => cases ds <;> rfl
      | cons d es => obtain ⟨_, _, e, _⟩ := h2; cases e
  | a :: as, xs, ys, ds, es, h, h1, h2 => by
    obtain ⟨x, xr, y, yr, rfl, rfl, ha, ht⟩ := h
    cases ds with
    | nil => cases (show x :: xr = [] from h1)
    | cons d ds =>
      cases es with
      | nil => cases (show y :: yr = [] from h2)
      | cons e es =>
        obtain ⟨_, _, q, i1, t1⟩ := h1
        cases q
        obtain ⟨_, _, q, i2, t2⟩ := h2
        cases q
        exact ⟨.ref a, as.map V.ref, rfl, ⟨a, _, rfl, SqT.of ha, AreD.two i1 i2⟩, AreD.pairs ht t1 t2⟩
def Feed (H : Hp) (l : Addr) : Prop := ∃ a b c d : Int, H l = some (.lst [.int a, .int b, .int c, .int d])
structure Step (l : Addr) (H H' : Hp) : Prop where
  keep : ∀ x o, x ≠ l → H x = some o → H' x = some o
  feed : Feed H' l
theorem Step.refl {l : Addr} {H : Hp} (f : Feed H l) : Step l H H := ⟨fun _ _ _ h => h, f⟩
theorem Step.trans {l : Addr} {H H1 H2 : Hp} (a : Step l H H1) (b : Step l H1 H2) : Step l H H2 := ⟨fun x o n h => b.keep x o n (a.keep x o n h), b.feed⟩
theorem Step.free {l : Addr} {H H' : Hp} (a : Step l H H') (f : Feed H l) {p : Addr} (h : H' p = none) : H p = none := by
  cases q : H p with
  | none => rfl
  | some o =>
    by_cases e : p = l
    · obtain ⟨_, _, _, _, z⟩ := a.feed
      rw [e, z] at h
      cases h
    · rw [a.keep p o e q] at h
      cases h
theorem Feed.put {l p : Addr} {H : Hp} {o : HO} (f : Feed H l) (h : p ≠ l) : Feed (upd H p o) l := by
  obtain ⟨a, b, c, d, e⟩ := f
  exact ⟨a, b, c, d, by rw [upd_ne h.symm]; exact e⟩
theorem Feed.ne {l p : Addr} {H : Hp} (f : Feed H l) (h : H p = none) : p ≠ l := fun e => by
  obtain ⟨a, b, c, d, q⟩ := f
  rw [e, q] at h
  cases h
theorem Step.put {l p : Addr} {H H' : Hp} {o : HO} (a : Step l H H') (n : p ≠ l) (h : H p = none) : Step l H (upd H' p o) :=
  ⟨fun x u q e => by rw [upd_ne (ne_of_none e h)]; exact a.keep x u q e, a.feed.put n⟩
theorem Step.lay {l p : Addr} {H H' : Hp} {o : HO} (a : Step l H H') (f : Feed H l) (h : H' p = none) : Step l H (upd H' p o) := a.put (a.feed.ne h) (a.free f h)
theorem Step.same {l : Addr} {H H1 H2 : Hp} (a : Step l H H1) (b : Same H1 H2) : Step l H H2 :=
  ⟨fun x o n h => b _ _ (a.keep x o n h), let ⟨x, y, z, u, e⟩ := a.feed; ⟨x, y, z, u, b _ _ e⟩⟩
theorem Step.up {K : PySem.W.Frag} {l : Addr} {H H' : Hp} (a : Step l H H') (f : Feed H l) : Up K H H' := fun c xs h => by
  have ne : ∀ o, H c = some o → (∀ ys, o ≠ .lst ys) → c ≠ l := fun o e n q => by
    obtain ⟨_, _, _, _, z⟩ := f
    rw [q, z] at e
    cases e
    exact n _ rfl
  rcases h with (h | ⟨o, h⟩) | h
  · exact .inl (.inl (a.keep _ _ (ne _ h fun _ z => nomatch z) h))
  · exact .inl (.inr ⟨o, a.keep _ _ (ne _ h fun _ z => nomatch z) h⟩)
  · exact .inr h
theorem up_put {K : PySem.W.Frag} {H : Hp} {p : Addr} {o : HO} (h : H p = none) : Up K H (upd H p o) := Same.up (fun b u q => by rw [upd_ne (ne_of_none q h)]; exact q)
theorem up_set {K : PySem.W.Frag} {H : Hp} {p : Addr} {o : HO} {ys : List V} (h : H p = some (.lst ys)) : Up K H (upd H p o) := fun c xs q => by
  have ne : ∀ u, H c = some u → (∀ ys, u ≠ .lst ys) → c ≠ p := fun u e n z => by
    rw [z, h] at e
    cases e
    exact n _ rfl
  rcases q with (q | ⟨u, q⟩) | q
  · exact .inl (.inl (by rw [upd_ne (ne _ q fun _ z => nomatch z)]; exact q))
  · exact .inl (.inr ⟨u, by rw [upd_ne (ne _ q fun _ z => nomatch z)]; exact q⟩)
  · exact .inr q
structure Good where
  whole : Int → Prop
  text : Str → Prop
  name : Str → Prop
  num : Int → Prop
  names : List Str → Prop
  nums : List Int → Prop
def Itm (G : Good) : Nat → D → Prop
  | 0, _ => False
  | k + 1, d => (∃ n, d = .tup [.str "whole", .int n] ∧ G.whole n) ∨ (∃ x, d = .tup [.str "text", .str x] ∧ G.text x) ∨
      (∃ n e, d = .tup [.str "arm", .int n, e] ∧ G.num n ∧ Itm G k e) ∨ (∃ es, d = .tup [.str "row", .tup es] ∧ es.length ≤ 3 ∧ ∀ e ∈ es, Itm G k e) ∨
      (∃ ks es, d = .tup [.str "map", .tup (pairsD (ks.map D.str) es)] ∧ ks.length = es.length ∧ es.length ≤ 3 ∧ G.names ks ∧ ∀ e ∈ es, Itm G k e) ∨
      (∃ ks es, d = .tup [.str "rec", .tup (pairsD (ks.map D.int) es)] ∧ ks.length = es.length ∧ es.length ≤ 3 ∧ G.nums ks ∧ ∀ e ∈ es, Itm G k e)
theorem noLs_pairs : ∀ {as bs : List D}, (∀ d ∈ as, noL d = true) → (∀ d ∈ bs, noL d = true) → noLs (pairsD as bs) = true
  | [], _, _, _ => by simp [pairsD, noLs]
  | _ :: _, [], _, _ => by simp [pairsD, noLs]
  | a :: as, b :: bs, h1, h2 => by
    have r := noLs_pairs (as := as) (bs := bs) (fun d m => h1 d (List.mem_cons_of_mem _ m)) fun d m => h2 d (List.mem_cons_of_mem _ m)
    simp only [pairsD, noLs, noL, h1 a List.mem_cons_self, h2 b List.mem_cons_self, r, Bool.and_self]
theorem Itm.noL {G : Good} : ∀ {k : Nat} {d : D}, Itm G k d → noL d = true
  | 0, _, h => h.elim
  | k + 1, d, h => by
    rcases h with ⟨n, rfl, _⟩ | ⟨x, rfl, _⟩ | ⟨n, e, rfl, _, i⟩ | ⟨es, rfl, _, i⟩ | ⟨ks, es, rfl, _, _, _, i⟩ | ⟨ks, es, rfl, _, _, _, i⟩
    · rfl
    · rfl
    · simp only [L2.noL, noLs, Bool.true_and, Bool.and_true]; exact Itm.noL i
    · simp only [L2.noL, noLs, Bool.true_and, Bool.and_true]; exact noLs_all fun e m => Itm.noL (i e m)
    · simp only [L2.noL, noLs, Bool.true_and, Bool.and_true]
      refine noLs_pairs (fun d m => ?_) fun e m => Itm.noL (i e m)
      obtain ⟨x, _, rfl⟩ := List.mem_map.mp m
      rfl
    · simp only [L2.noL, noLs, Bool.true_and, Bool.and_true]
      refine noLs_pairs (fun d m => ?_) fun e m => Itm.noL (i e m)
      obtain ⟨x, _, rfl⟩ := List.mem_map.mp m
      rfl
theorem Itm.noLs {G : Good} {k : Nat} {ds : List D} (h : ∀ d ∈ ds, Itm G k d) : noLs ds = true := noLs_all fun d m => (h d m).noL
end L2
set_option Elab.async false
set_option linter.all false
set_option maxRecDepth 100000
namespace L2
open PySem PySem.Spec PyProof.Rows
section
variable {X : Cx}
theorem ps_setI (i : Nat) {x : Str} {e : Expr} {te : TE} {pos pos' : Pos} (hN : X.N.Nodup) (hi : X.N[i]? = some x) (hx : Loc X.env.scope x) (he : PE X e te)
    (hs : swapsWith e (some (.Name x pos')) pos.line X.env = pure false := by rfl) (hf : X.fn x = true ∨ X.env.scope.names.lookup x = some .local := by first | exact .inl rfl | exact .inr rfl | assumption) :
    PS X (.Assign [.Name x pos'] e pos) (tAsg te (gName i)) := ps_set hN hi hx he hs hf
theorem pg_nameI (i : Nat) {x : Str} {pos : Pos} (hN : X.N.Nodup) (hi : X.N[i]? = some x) (hx : Loc X.env.scope x)
    (hf : X.fn x = true ∨ X.env.scope.names.lookup x = some .local := by first | exact .inl rfl | exact .inr rfl | assumption) : PG X (.Name x pos) (gName i) := pg_name hN hi hx hf
theorem pe_globR {x : Str} {C : Addr} {pos : Pos} (hg : Gl X x) (hm : X.mg x = some (.ref C)) (hd : (x == ("__debug__" : Str)) = false := by decide) : PE X (.Name x pos) (tC (.ref C)) := pe_glob hg hm rfl hd
theorem pe_bltnT {T : String} {x : Str} {pos : Pos} (hg : Gl X x) (hm : X.mg x = none) (hv : bootBuiltins x = some (.type T)) (hn : x ≠ "__name__" := by decide) (hd : (x == ("__debug__" : Str)) = false := by decide) :
    PE X (.Name x pos) (tC (.ty T)) := pe_bltn hg hm hv rfl hn hd
theorem pe_compI (NX : List Str) (outer : Scope) (N : List Str) (fr : List (Option Nat)) {scope : Scope} {tg elt iter : Expr} {ifs : List Expr} {pos : Pos} {wi : TI} {g : DG} {tt : DT} {te : DE} (hc : X.calm = true) (hi : PI X tg iter wi)
    (C : CompFr X NX outer scope N fr) (hg : ∀ fp s H, PG (cxComp X scope N fp s H) tg (g fp s H)) (ht : ∀ fp s H, PTs (cxComp X scope N fp s H) ifs (tt fp s H)) (he : ∀ fp s H, PE (cxComp X scope N fp s H) elt (te fp s H))
    (hs : ∀ x, foldedSetIterable iter X.env x = pure x := by intro _; rfl) : PE X (.ListComp elt [⟨tg, iter, ifs, 0⟩] scope pos) (tComp wi fr g tt te) := pe_comp hc hi C hg ht he hs
theorem ps_setCompI (i : Nat) (NX : List Str) (outer : Scope) (N : List Str) (fr : List (Option Nat)) {scope : Scope} {tg elt iter : Expr} {ifs : List Expr} {pos pos' pos2 : Pos} {wi : TI} {g : DG} {tt : DT} {te : DE} {x : Str} (hN : X.N.Nodup) (hix : X.N[i]? = some x)
    (hx : Loc X.env.scope x) (hc : X.calm = true) (hi : PI X tg iter wi) (C : CompFr X NX outer scope N fr) (hg : ∀ fp s H, PG (cxComp X scope N fp s H) tg (g fp s H)) (ht : ∀ fp s H, PTs (cxComp X scope N fp s H) ifs (tt fp s H))
    (he : ∀ fp s H, PE (cxComp X scope N fp s H) elt (te fp s H)) (hsw : swapsWith (.ListComp elt [⟨tg, iter, ifs, 0⟩] scope pos) (some (.Name x pos')) pos2.line X.env = pure true := by rfl)
    (hs : ∀ x, foldedSetIterable iter X.env x = pure x := by intro _; rfl) (hf : X.fn x = true ∨ X.env.scope.names.lookup x = some .local := by first | exact .inl rfl | exact .inr rfl | assumption) :
    PS X (.Assign [.Name x pos'] (.ListComp elt [⟨tg, iter, ifs, 0⟩] scope pos) pos2) (tAsg (tComp wi fr g tt te) (gName i)) := ps_setComp hN hix hx hc hi C hg ht he hsw hs hf
end
end L2
set_option Elab.async false
set_option linter.all false
set_option maxRecDepth 100000
namespace DctE
open PySem PySem.SeqAt PySem.MeetsSeq
open PySem.AutoSeq1 (wpAny_loadPart')
end DctE
set_option Elab.async false
set_option linter.all false
set_option maxRecDepth 100000
namespace L2
open PySem PySem.Spec PyProof.Rows
section
variable {X : Cx} {pins : List (Addr × Obj)} {σ : St} {H H' : Hp} {s : Shared} {h' : Heap}
theorem Inv.turnLay {t' : Nat} {fp : List Addr} {a : Addr} {o : HO} (I : Inv X pins σ H s) (k : ∀ b u, b ∉ fp → s.heap.get? b = some u → h'.get? b = some u) (hf : ∀ b ∈ fp, FpOk X pins H b) (hp : s.heap.objs.size ≤ a) (new : ObjOk X.prog X.w (upd H a o) h' a o) :
    Inv X pins σ (upd H a o) { s with heap := h', toks := t' } := by
  have hn := I.hok.fresh hp
  have nf : ∀ b u, H b = some u → b ∉ fp := fun b u e m => by
    have z := (hf b m).1
    rw [e] at z
    cases z
  have na : ∀ b u, s.heap.get? b = some u → b ≠ a := fun b u e => Nat.ne_of_lt (Nat.lt_of_lt_of_le (Heap.lt_size e) hp)
  refine I.call (g' := s.gens) (d' := s.drawn) (ch := fp) ⟨fun b u e _ _ hx => k b u hx e, fun b u e _ _ hx => ⟨u.slots, k b u hx e⟩, fun b u e n _ => by rw [upd_ne (na b u e)]; exact n, fun b u e hx => ⟨u, k b u hx e⟩,
    fun b xs e => by rw [upd_ne (ne_of_none e hn)]; exact e, fun b ob u e => by rw [upd_ne (ne_of_none e hn)]; exact e, fun b ps e => ⟨#[], by rw [upd_ne (ne_of_none e hn)]; simp [e]⟩⟩ (fun b u e => ?_) I.bare
    fun b hb => ⟨(hf b hb).2.2.2.1, (hf b hb).2.1, (hf b hb).2.2.2.2.1, (hf b hb).2.2.2.2.2⟩
  by_cases hb : b = a
  · subst hb
    rw [upd_same] at e
    cases e
    exact new
  · rw [upd_ne hb] at e
    refine (I.hok b u e).stay (fun c v hc q => k c v ?_ q) (fun c q => by rw [upd_ne (ne_of_none q hn)]; exact q) fun c xs q => by rw [upd_ne (ne_of_none q hn)]; exact q
    rcases hc with z | z
    · rw [z]; exact nf b u e
    · exact nf c _ z
theorem Inv.turnL {t' : Nat} {fp : List Addr} (I : Inv X pins σ H s) (k : ∀ b u, b ∉ fp → s.heap.get? b = some u → h'.get? b = some u) (hf : ∀ b ∈ fp, FpOk X pins H b) :
    Inv X pins σ H { s with heap := h', toks := t' } := by
  have nf : ∀ b u, H b = some u → b ∉ fp := fun b u e m => by
    have z := (hf b m).1
    rw [e] at z
    cases z
  refine I.call (g' := s.gens) (d' := s.drawn) (ch := fp) ⟨fun b u e _ _ hx => k b u hx e, fun b u e _ _ hx => ⟨u.slots, k b u hx e⟩, fun b u e n _ => n, fun b u e hx => ⟨u, k b u hx e⟩,
    fun b xs e => e, fun b ob u e => e, fun b ps e => ⟨#[], by simp [e]⟩⟩ (fun b u e => ?_) I.bare
    fun b hb => ⟨(hf b hb).2.2.2.1, (hf b hb).2.1, (hf b hb).2.2.2.2.1, (hf b hb).2.2.2.2.2⟩
  refine (I.hok b u e).stay (fun c v hc q => k c v ?_ q) (fun c q => q) fun c xs q => q
  rcases hc with z | z
  · rw [z]; exact nf b u e
  · exact nf c _ z
end
section
variable {X : Cx} {pos : Pos}
def tDct0 : TE := fun _ H Q => ∀ p, H p = none → Q (.ref p) (upd H p (.dK []))
def repS (i : Str) (n : Nat) : Str := ⟨(List.replicate n i.cps).foldl (· ++ ·) #[]⟩
end
end L2
set_option Elab.async false
set_option linter.all false
set_option maxRecDepth 100000
namespace L2
open PySem PySem.Spec PyProof.Rows
def Its (x : Str) : It := ⟨fun i _ => i < x.cps.size, fun i H v H' => H' = H ∧ ∃ c, x.cps[i]? = some c ∧ v = .str ⟨#[c]⟩, fun i _ => x.cps.size ≤ i⟩
theorem turn_str {P : Program} {w : World} {K : PySem.W.Frag} {tg : Expr} (x : Str) (it : Addr) (T : String) (t : Tok) (hT : ["enumerate", "zip", "dict_itemiterator", "dict_reverseitemiterator", "odict_iterator", "itertools.zip_longest", "itertools.pairwise"].contains T = false)
    (W : ∀ A : Around, A.handled = none → Walks P w A it [it] [it] x.cps.size (SignAt x) (fun i h => h.IsStrIter it T x t i)) (hs : ∀ (A : Around) (i : Nat) (s : Shared) (Q : Value → Shared → Prop) (E : Value → Shared → Prop), s.heap.IsStrIter it T x t i → Q (.ref it) s → wpAny (model P w) A (pyIter (.ref it)) Q E s)
    (hd : ∀ (A : Around) (i : Nat) (s : Shared) (Q : Option Value → Shared → Prop) (E : Value → Shared → Prop), A.handled = none → x.cps.size ≤ i → s.heap.IsStrIter it T x t i → (∀ h' tk, (∀ b o, b ≠ it → s.heap.get? b = some o → h'.get? b = some o) → Q none { s with heap := h', toks := tk }) → wpAny (model P w) A (pyNext (.ref it)) Q E s) :
    Turn P w K tg (Its x) [it] it (fun i h => h.IsStrIter it T x t i) where
  mem := by simp
  obj := fun i h st b hb => by
    have e : b = it := by simpa using hb
    subst e
    obtain ⟨o, e, c, d⟩ := st
    exact ⟨o, e, fun v z => by rw [d] at z; cases z⟩
  keep := fun i h h' st k => let ⟨o, ho, r⟩ := st; ⟨o, k it (by simp) o ho, r⟩
  item := by
    intro X hP hw hK hc i pins s σ H E I hf st hg
    subst hP hw hK
    obtain ⟨f0, f1, f2, f3, f4, f5⟩ := hf it (by simp)
    refine (W X.A (I.ok.hd hc)).item i s _ _ hg st fun v h' tk hv st' kk => ?_
    obtain ⟨c, u, hc', rfl⟩ := hv
    have I1 : Inv X pins σ H { s with heap := h', toks := tk } := I.turned (fun b o hb e => kk b o (by simpa using hb) e) f0 f1 f3 f4 f5
    obtain ⟨o, e, c1, d⟩ := id st'
    exact ⟨_, rfl, go_of (s := { s with heap := h', toks := tk }) e c1 d hT ⟨.str ⟨#[c]⟩, H, I1, ⟨u, rfl⟩, ⟨rfl, c, hc', rfl⟩, st', fun b hb => (hf b hb).1⟩⟩
  done := by
    intro X hP hw hK hc i pins s σ H E I hf st hg
    subst hP hw hK
    obtain ⟨f0, f1, f2, f3, f4, f5⟩ := hf it (by simp)
    exact hd X.A i s _ _ (I.ok.hd hc) hg st fun h' tk eb => ⟨rfl, I.turned (fun b o hb e => eb b o hb e) f0 f1 f3 f4 f5⟩
  self := fun A i s Q E st h => hs A i s Q E st h
def iStr (te : TE) : TI := fun σ H R => te σ H fun v H1 => ∃ x, v = .str x ∧ R (Its x) H1
section
variable {X : Cx} {tg l : Expr} {tl : TE}
theorem pi_str (hl : PE X l tl) : PI X tg l (iStr tl) := by
  intro pins s σ H R I h
  refine thn (hl pins s σ H _ I h) fun v s1 ⟨v', H1, I1, r1, q1⟩ => ?_
  obtain ⟨x, rfl, q⟩ := q1
  obtain ⟨t, rfl⟩ := r1
  have fin : ∀ b ∈ [s1.heap.objs.size], FpOk X pins H1 b := fun b hb => by
    have e : b = s1.heap.objs.size := by simpa using hb
    subst e
    exact I1.fpOk (Nat.le_refl _) (I1.hok.fresh (Nat.le_refl _))
  cases ha : x.cps.all (· < 128)
  · refine wpAny_pyIter_wide ha ?_
    exact ⟨s1.heap.objs.size, [s1.heap.objs.size], _, _, H1, rfl, I1.kept (t' := s1.toks) fun b o e => Heap.get?_push_of_some _ e, turn_str x _ "str_iterator" t (by decide) (fun A hA => Walks.strWide hA _ x t) (fun A i s Q E st h => wpAny_pyIter_striter_wide st h)
      (fun A i s Q E hA hi st h => wpAny_pyNext_wide_end hA st (by simp [hi]) fun h' he => h h' s.toks fun b o hb e => he b o hb e), ⟨_, Heap.get?_push_size _ rfl, rfl, rfl⟩, fin, q⟩
  · refine wpAny_pyIter_ascii ha ?_
    exact ⟨s1.heap.objs.size, [s1.heap.objs.size], _, _, H1, rfl, I1.kept (t' := s1.toks) fun b o e => Heap.get?_push_of_some _ e, turn_str x _ "str_ascii_iterator" t (by decide) (fun A hA => Walks.strAscii hA _ x t) (fun A i s Q E st h => wpAny_pyIter_striter_ascii st h)
      (fun A i s Q E hA hi st h => wpAny_pyNext_ascii_end hA st (by simp [hi]) fun h' he => h h' s.toks fun b o hb e => he b o hb e), ⟨_, Heap.get?_push_size _ rfl, rfl, rfl⟩, fin, q⟩
end
theorem comp_str {x : Str} {D : Addr} {g : TG} {tt : TT} {te : TE} {fin : Hp → Prop} {σ0 : St} {H0 : Hp} (Pv : Nat → List V → St → Hp → Prop) (h0 : Pv 0 [] σ0 H0)
    (hq : ∀ i ys σ H, i ≤ x.cps.size → Pv i ys σ H → H D = some (.lst ys))
    (hs : ∀ i c ys σ H, x.cps[i]? = some c → Pv i ys σ H → g (.str ⟨#[c]⟩) σ H fun σ2 H2 => tt σ2 H2 fun ok H3 => if ok = true then te σ2 H3 fun y H4 => H4 D = some (.lst ys) ∧ ys.length < sizeLine ∧ Pv (i + 1) (ys ++ [y]) σ2 (upd H4 D (.lst (ys ++ [y]))) else Pv (i + 1) ys σ2 H3)
    (hd : ∀ ys σ H, Pv x.cps.size ys σ H → fin H) : ∃ W : Nat → Nat → List V → St → Hp → Prop, (∃ m, W 0 m [] σ0 H0) ∧ CompW (Its x) g tt te D W fin := by
  refine ⟨fun i m ys σ H => m = x.cps.size - i ∧ i ≤ x.cps.size ∧ Pv i ys σ H, ⟨x.cps.size, by simp, Nat.zero_le _, h0⟩, ?_⟩
  rintro i m ys σ H ⟨rfl, hi, p⟩
  refine ⟨hq i ys σ H hi p, ?_⟩
  by_cases hlt : i < x.cps.size
  · refine .inr ⟨hlt, Pv (i + 1), fun ys' σ' H' p' => ⟨x.cps.size - (i + 1), by omega, rfl, hlt, p'⟩, fun v H' y => ?_⟩
    obtain ⟨e, c, y, rfl⟩ := y
    subst e
    exact hs i c ys σ _ y p
  · have e : i = x.cps.size := by omega
    subst e
    exact .inl ⟨Nat.le_refl _, hd ys σ H p⟩
def Itz (K : PySem.W.Frag) (l1 l2 : Addr) : It :=
  ⟨fun i H => ∃ xs ys x y, SqL K H l1 xs ∧ SqL K H l2 ys ∧ xs[i]? = some x ∧ ys[i]? = some y,
   fun i H v H' => ∃ p x y, v = .ref p ∧ H p = none ∧ H' = upd H p (.tup [x, y]) ∧ (∀ xs, SqL K H l1 xs → xs[i]? = some x) ∧ ∀ ys, SqL K H l2 ys → ys[i]? = some y,
   fun i H => ∃ xs ys, SqL K H l1 xs ∧ SqL K H l2 ys ∧ (xs.length ≤ i ∨ ys.length ≤ i)⟩
def iZip (K : PySem.W.Frag) (t : TA) : TI := fun σ H R => t σ H fun vs H1 => ∃ p q, vs = [.ref p, .ref q] ∧ (∃ xs, SqL K H1 p xs) ∧ (∃ ys, SqL K H1 q ys) ∧ R (Itz K p q) H1
section
variable {X : Cx} {es : List Expr} {k : Nat} {p2 pos pos2 : Pos} {a b : Expr} {t : TA}
end
end L2
namespace L2
open PySem PySem.Spec PyProof.Rows
section
variable {X : Cx}
theorem op_catT0 : OpR X (binaryOp .Add) (fun x y H Q => ∃ l b zs, x = .ref l ∧ y = .ref b ∧ SqT X.K H l [] ∧ SqT X.K H b zs ∧ Q (.ref b) H) := by
  intro pins s σ H x y v u Q I rx ry h
  obtain ⟨l, b, zs, rfl, rfl, hl, hb, q⟩ := h
  cases rx
  cases ry
  obtain ⟨i1, r1, p1, z1⟩ := I.tuple hl
  obtain ⟨i2, r2, p2, z2⟩ := I.tuple hb
  have e1 : i1 = [] := by cases r1; rfl
  subst e1
  obtain ⟨⟨c1, d1, t1, s1⟩, o1, k1, n1, m1⟩ := id p1
  obtain ⟨⟨c2, d2, t2, s2⟩, o2, k2, n2, m2⟩ := id p2
  simp only at k1 m1 k2 m2
  subst k1 m1 k2 m2
  exact concat_meets ⟨_, o1, rfl⟩ ⟨_, o2, rfl⟩ noFill_tuple_add seq_tuple_add PySem.F.slot_tuple_add PySem.F.entry_tuple_add (PySem.F.args_tuple_add_2 _ _) (tuple_addW0 l b _ _ n1 n2 d1 d2 s1 s2 rfl) ⟨o1, o2, ⟨.ref b, H, I, rfl, q⟩⟩
end
end L2
set_option Elab.async false
set_option linter.all false
set_option maxRecDepth 100000
namespace HT
open PySem PySem.Spec PyProof.Rows
section
variable {prog : Program} {w : World} {A : Around} {E : Value → Shared → Prop} {s : Shared}
theorem getItem_tuple_whole {t sl : Addr} {items : Array Value} {vl vu : Value} {lo hi : Option Int} {Q : Value → Shared → Prop} (ht : IsTup s.heap t items) (hs : s.heap.IsSliceOf sl vl vu .none) (pl : IsPart vl lo) (pu : IsPart vu hi)
    (hw : sIx items.size 0 lo = 0 ∧ sIx items.size items.size hi = items.size) (h : Q (.ref t) s) : wpAny (model prog w) A (getItem (.ref t) (.ref sl)) Q E s := by
  obtain ⟨os, hos, hcs, hds⟩ := id hs
  have hTs : s.TypeIs (.ref sl) "slice" := ⟨os, hos, hcs⟩
  unfold getItem
  try with_reducible refine wpAny_holding ?_
  first | refine wpAny_bind (wpAny_pure ?_) | skip
  refine wpAny_bind (wpAny_sequenceKey ht.typeIs (by decide) ?_)
  refine wpAny_bind (wpAny_callSpecial?_slot (name := Str.ofString "__getitem__") ht.typeIs PyProof.Rows.slot_tuple_getitem
    (wpAny_call_entry PyProof.Rows.slot_tuple_getitem ht.typeIs entry_tuple_getitem ?_ (args_tuple_getitem _ _)))
  show wpAny _ _ (Builtin.Tuple.tupleItemsOf (.ref t) >>= _) _ _ s
  refine wpAny_bind (tupleItemsOf_ ht ?_)
  refine wpAny_bind (wpAny_typeOf hTs ?_)
  rw [if_pos (by decide)]
  refine wpAny_bind (sliceApplied_gen hs pl pu ?_)
  have hyes : (((sIx items.size 0 lo : Nat) : Int) == 0 && (1 : Int) == 1 && (sIx items.size items.size hi - sIx items.size 0 lo) == items.size) = true := by
    rw [hw.1, hw.2]
    simp
  show wpAny _ _ (if (((sIx items.size 0 lo : Nat) : Int) == 0 && (1 : Int) == 1 && (sIx items.size items.size hi - sIx items.size 0 lo) == items.size) = true then _ else _) _ _ s
  rw [if_pos hyes]
  refine wpAny_bind (m := Builtin.Tuple.tupleIsExact (.ref t)) (wpAny_bind (wpAny_typeOf ht.typeIs (wpAny_pure ?_)))
  rw [if_pos (by decide)]
  exact wpAny_bind (wpAny_rule (wpAny_pure ⟨_, rfl, wpAny_pure h⟩))
end
end HT
namespace L2
open PySem PySem.Spec PyProof.Rows
section
variable {X : Cx} {e : Expr} {te : TE} {lo hi : Option Expr} {tl th : TO} {pos p2 p3 p4 : Pos} {j1 : Nat}
theorem Same.lay {H : Hp} {p : Addr} {o : HO} (h : H p = none) : Same H (upd H p o) := fun b u q => by rw [upd_ne (ne_of_none q h)]; exact q
def rSlG (K : PySem.W.Frag) : V → Option Int → Option Int → Hp → VK → Prop := fun x lo hi H Q => ∃ a xs, x = .ref a ∧ SqT K H a xs ∧ ∀ p H', Same H H' → SqT K H' p (cutV xs lo hi) → Q (.ref p) H'
theorem sl_tupG : SlR X (rSlG X.K) := by
  intro pins s σ H x v vl vu lo hi sl Q I rx hs pl pu h
  obtain ⟨a, xs, rfl, hx, q⟩ := h
  by_cases hw : HT.sIx xs.length 0 lo = 0 ∧ HT.sIx xs.length xs.length hi = xs.length
  · cases rx
    obtain ⟨its, r, ht, hz⟩ := I.tuple hx
    have hlen : its.toArray.size = xs.length := by rw [List.size_toArray]; exact r.length.symm
    refine ⟨"tuple", _, PyProof.Rows.slot_tuple_getitem.lookup, ht.typeIs, ?_⟩
    refine HT.getItem_tuple_whole ht hs pl pu (by rw [hlen]; exact hw) ⟨.ref a, H, I, rfl, q a H (Same.refl H) ?_⟩
    have e : cutV xs lo hi = xs := by
      unfold cutV
      rw [hw.1, hw.2, List.drop_zero, Nat.sub_zero, List.take_length]
    rw [e]
    exact hx
  · exact sl_tup pins s σ H _ v vl vu lo hi sl Q I rx hs pl pu ⟨a, xs, rfl, hx, hw, fun p hp => q p _ (Same.lay hp) (SqT.of upd_same)⟩
def tRev (K : PySem.W.Frag) (te : TE) : TE := fun σ H Q => te σ H fun x H1 => ∃ a xs, x = .ref a ∧ SqT K H1 a xs ∧ ∀ p, H1 p = none → Q (.ref p) (upd H1 p (.tup xs.reverse))
def rCatG (K : PySem.W.Frag) : R2 := fun x y H Q => ∃ a b xs ys, x = .ref a ∧ y = .ref b ∧ SqT K H a xs ∧ SqT K H b ys ∧ xs.length + ys.length ≤ sizeLine ∧ ∀ p H', Same H H' → SqT K H' p (xs ++ ys) → Q (.ref p) H'
theorem op_catG : OpR X (binaryOp .Add) (rCatG X.K) := by
  intro pins s σ H x y v u Q I rx ry h
  obtain ⟨a, b, xs, ys, rfl, rfl, ha, hb, hz, q⟩ := h
  cases xs with
  | nil => exact op_catT0 pins s σ H _ _ v u Q I rx ry ⟨a, b, ys, rfl, rfl, ha, hb, q b H (Same.refl H) hb⟩
  | cons x xs =>
    refine op_catT pins s σ H _ _ v u Q I rx ry ⟨a, b, x :: xs, ys, rfl, rfl, ha, hb, (fun z => nomatch z), hz, fun e => ?_, fun _ p hp => q p _ (Same.lay hp) (SqT.of upd_same)⟩
    subst e
    exact q a H (Same.refl H) (by rw [List.append_nil]; exact ha)
end
structure FnV (X : Cx) (f : Addr) (ps : List Str) (sp : Sp) : Prop where
  ok : ∃ k fd, FnOk X.prog X.w X.K X.mg X.base CX0 k f fd ps sp ∧ Binds X.K fd ps [] ∧ Room k X.A
  kp : PySem.W.keepIn X.K (.ref f) = true
section
variable {X : Cx} {x : Str} {p pos : Pos} {e : Expr} {es : List Expr} {tn : TE} {t : TA} {Y : Cx → Addr → List Str → Sp → Prop}
def tCallV (X : Cx) (tn : TE) (t : TA) : TE := fun σ H Q => tn σ H fun v H1 => ∃ f ps sp, v = .ref f ∧ FnV X f ps sp ∧ t σ H1 fun vs H2 => sp vs H2 Q E0
end
end L2
set_option Elab.async false
set_option linter.all false
set_option maxRecDepth 100000
namespace L2
open PySem PySem.Spec PyProof.Rows
inductive Th where
  | non | bl (b : Bool) | int (i : Int) | str (x : Str) | tup (ts : List Th) | opq
mutual
def IsTh (K : PySem.W.Frag) (H : Hp) : Th → V → Prop
  | .non, v => v = .non
  | .bl b, v => v = .bl b
  | .int i, v => v = .int i
  | .str x, v => v = .str x
  | .tup ts, v => ∃ a vs, v = .ref a ∧ SqT K H a vs ∧ AreTh K H ts vs
  | .opq, v => ∃ a, v = .ref a ∧ ((∃ xs, H a = some (.lst xs)) ∨ ∃ kvs, H a = some (.dK kvs))
def AreTh (K : PySem.W.Frag) (H : Hp) : List Th → List V → Prop
  | [], vs => vs = []
  | t :: ts, vs => ∃ v r, vs = v :: r ∧ IsTh K H t v ∧ AreTh K H ts r
end
structure UpT (K : PySem.W.Frag) (H H' : Hp) : Prop where
  tup : Up K H H'
  lst : ∀ a xs, H a = some (.lst xs) → ∃ ys, H' a = some (.lst ys)
  dct : ∀ a kvs, H a = some (.dK kvs) → H' a = some (.dK kvs)
section
variable {K : PySem.W.Frag} {H H1 H' : Hp}
theorem UpT.refl (H : Hp) : UpT K H H := ⟨Up.refl H, fun _ xs h => ⟨xs, h⟩, fun _ _ h => h⟩
theorem UpT.trans {H2 : Hp} (a : UpT K H H1) (b : UpT K H1 H2) : UpT K H H2 := ⟨a.tup.trans b.tup, fun p xs h => let ⟨_, e⟩ := a.lst p xs h; b.lst p _ e, fun p k h => b.dct p k (a.dct p k h)⟩
mutual
theorem IsTh.up (u : UpT K H H') : ∀ (t : Th) (v : V), IsTh K H t v → IsTh K H' t v
  | .non, _, h => h
  | .bl _, _, h => h
  | .int _, _, h => h
  | .str _, _, h => h
  | .tup ts, v, h => by
    obtain ⟨a, vs, e, q, r⟩ := h
    exact ⟨a, vs, e, u.tup a vs q, AreTh.up u ts vs r⟩
  | .opq, v, h => by
    obtain ⟨a, e, q⟩ := h
    refine ⟨a, e, ?_⟩
    rcases q with ⟨xs, q⟩ | ⟨k, q⟩
    · exact .inl (u.lst a xs q)
    · exact .inr ⟨k, u.dct a k q⟩
theorem AreTh.up (u : UpT K H H') : ∀ (ts : List Th) (vs : List V), AreTh K H ts vs → AreTh K H' ts vs
  | [], _, h => h
  | t :: ts, vs, h => by
    obtain ⟨v, r, e, q, w⟩ := h
    exact ⟨v, r, e, IsTh.up u t v q, AreTh.up u ts r w⟩
end
theorem AreTh.length : ∀ {ts : List Th} {vs : List V}, AreTh K H ts vs → ts.length = vs.length
  | [], vs, h => by
    have e : vs = [] := h
    subst e; rfl
  | t :: ts, vs, h => by
    obtain ⟨v, r, rfl, _, w⟩ := h
    simp only [List.length_cons, AreTh.length w]
theorem AreTh.get : ∀ {ts : List Th} {vs : List V} {i : Nat} {t : Th}, AreTh K H ts vs → ts[i]? = some t → ∃ v, vs[i]? = some v ∧ IsTh K H t v
  | [], vs, i, t, _, e => by simp at e
  | t :: ts, vs, 0, t', h, e => by
    obtain ⟨v, r, rfl, q, _⟩ := h
    simp at e; subst e
    exact ⟨v, rfl, q⟩
  | t :: ts, vs, i + 1, t', h, e => by
    obtain ⟨v, r, rfl, _, w⟩ := h
    obtain ⟨v', e1, q⟩ := AreTh.get (i := i) w (by simpa using e)
    exact ⟨v', by simpa using e1, q⟩
theorem AreTh.append : ∀ {ts us : List Th} {vs ws : List V}, AreTh K H ts vs → AreTh K H us ws → AreTh K H (ts ++ us) (vs ++ ws)
  | [], us, vs, ws, h, h' => by
    have e : vs = [] := h
    subst e; exact h'
  | t :: ts, us, vs, ws, h, h' => by
    obtain ⟨v, r, rfl, q, w⟩ := h
    exact ⟨v, r ++ ws, rfl, q, AreTh.append w h'⟩
theorem AreTh.one {t : Th} {v : V} (h : IsTh K H t v) : AreTh K H [t] [v] := ⟨v, [], rfl, h, rfl⟩
theorem AreTh.drop : ∀ {ts : List Th} {vs : List V} (n : Nat), AreTh K H ts vs → AreTh K H (ts.drop n) (vs.drop n)
  | ts, vs, 0, h => h
  | [], vs, n + 1, h => by
    have e : vs = [] := h
    subst e; rfl
  | t :: ts, vs, n + 1, h => by
    obtain ⟨v, r, rfl, _, w⟩ := h
    exact AreTh.drop n w
theorem AreTh.take : ∀ {ts : List Th} {vs : List V} (n : Nat), AreTh K H ts vs → AreTh K H (ts.take n) (vs.take n)
  | ts, vs, 0, _ => rfl
  | [], vs, n + 1, h => by
    have e : vs = [] := h
    subst e; rfl
  | t :: ts, vs, n + 1, h => by
    obtain ⟨v, r, rfl, q, w⟩ := h
    exact ⟨v, r.take n, rfl, q, AreTh.take n w⟩
theorem AreTh.reverse : ∀ {ts : List Th} {vs : List V}, AreTh K H ts vs → AreTh K H ts.reverse vs.reverse
  | [], vs, h => by
    have e : vs = [] := h
    subst e; rfl
  | t :: ts, vs, h => by
    obtain ⟨v, r, rfl, q, w⟩ := h
    rw [List.reverse_cons, List.reverse_cons]
    exact AreTh.append (AreTh.reverse w) (AreTh.one q)
end
def isiT (T : String) : Th → Bool
  | .non => false
  | .bl _ => T == "int" || T == "bool"
  | .int _ => T == "int"
  | .str _ => T == "str"
  | .tup _ => T == "tuple"
  | .opq => false
def eqT (t : Th) (z : Str) : Bool := match t with
  | .str x => x == z
  | _ => false
section
variable {X : Cx}
theorem isi_tup {pins : List (Addr × Obj)} {σ : St} {H : Hp} {s : Shared} {a : Addr} {xs : List V} {c : Value} {b : Bool} {Q : Value → Shared → Prop} {E : Value → Shared → Prop} (I : Inv X pins σ H s) (q : SqT X.K H a xs) (e : PySem.W.kitOne X.K (.type "tuple") c = some b) (h : ∀ tk, Q (.bool b) { s with toks := tk }) :
    wpAny (model X.prog X.w) X.A (call (.builtin "isinstance") [.ref a, c]) Q E s := by
  obtain ⟨its, _, ⟨o, h1, h2, _⟩, _⟩ := I.tuple q
  exact PySem.W.kia_one PySem.W.kitx_tuple I.kIn ⟨o, h1, h2⟩ e (fun z => nomatch z) h
theorem call_isiTh : CallR X (.builtin "isinstance") (fun xs H Q => ∃ x T t, xs = [x, .ty T] ∧ IsTh X.K H t x ∧ T ∈ ["tuple", "str", "int", "bool"] ∧ Q (.bl (isiT T t)) H) := by
  intro pins s σ H xs us Q I r h
  obtain ⟨x, T, t, rfl, ht, hT, q⟩ := h
  obtain ⟨u, w', rfl, rx, ry⟩ := vals2 r
  cases ry
  have fin : ∀ tk, EP X pins σ Q (.bool (isiT T t)) { s with toks := tk } := fun tk => ⟨.bl _, H, I.tok _, rfl, q⟩
  have four : ∀ P : String → Prop, P "tuple" → P "str" → P "int" → P "bool" → P T := fun P a b c d => by
    simp only [List.mem_cons, List.not_mem_nil, or_false] at hT
    rcases hT with rfl | rfl | rfl | rfl
    · exact a
    · exact b
    · exact c
    · exact d
  cases t with
  | non =>
    cases (show x = .non from ht)
    exact isinst_ok I rx .non (by revert fin; exact four (fun T => _ → PySem.W.kitOne X.K (.type "NoneType") (.type T) = some (isiT T .non)) (fun _ => rfl) (fun _ => rfl) (fun _ => rfl) (fun _ => rfl)) fin
  | bl b =>
    cases (show x = .bl b from ht)
    exact isinst_ok I rx (.bl b) (by revert fin; exact four (fun T => _ → PySem.W.kitOne X.K (.type "bool") (.type T) = some (isiT T (.bl b))) (fun _ => rfl) (fun _ => rfl) (fun _ => rfl) (fun _ => rfl)) fin
  | int i =>
    cases (show x = .int i from ht)
    exact isinst_ok I rx (.int i) (by revert fin; exact four (fun T => _ → PySem.W.kitOne X.K (.type "int") (.type T) = some (isiT T (.int i))) (fun _ => rfl) (fun _ => rfl) (fun _ => rfl) (fun _ => rfl)) fin
  | str i =>
    cases (show x = .str i from ht)
    exact isinst_ok I rx (.str i) (by revert fin; exact four (fun T => _ → PySem.W.kitOne X.K (.type "str") (.type T) = some (isiT T (.str i))) (fun _ => rfl) (fun _ => rfl) (fun _ => rfl) (fun _ => rfl)) fin
  | tup ts =>
    obtain ⟨a, vs, rfl, hq, _⟩ := ht
    cases rx
    exact isi_tup I hq (by revert fin; exact four (fun T => _ → PySem.W.kitOne X.K (.type "tuple") (.type T) = some (isiT T (.tup ts))) (fun _ => rfl) (fun _ => rfl) (fun _ => rfl) (fun _ => rfl)) fin
  | opq =>
    obtain ⟨a, rfl, ⟨xs, hq⟩ | ⟨k, hq⟩⟩ := ht
    · exact isinst_ok I rx (.lst hq) (by revert fin; exact four (fun T => _ → PySem.W.kitOne X.K (.type "list") (.type T) = some (isiT T .opq)) (fun _ => rfl) (fun _ => rfl) (fun _ => rfl) (fun _ => rfl)) fin
    · exact isinst_ok I rx (.dK hq) (by revert fin; exact four (fun T => _ → PySem.W.kitOne X.K (.type "dict") (.type T) = some (isiT T .opq)) (fun _ => rfl) (fun _ => rfl) (fun _ => rfl) (fun _ => rfl)) fin
def rEqTh (K : PySem.W.Frag) (A : Around) : R2 := fun x y H Q => ∃ t z, IsTh K H t x ∧ y = .str z ∧ A.units < cLine ∧ Q (.bl (eqT t z)) H
def rEqNil (K : PySem.W.Frag) (A : Around) : R2 := fun x y H Q => ∃ a b xs, x = .ref a ∧ y = .ref b ∧ SqL K H a xs ∧ SqL K H b [] ∧ A.units < cLine ∧ Q (.bl xs.isEmpty) H
end
end L2
set_option Elab.async false
set_option linter.all false
set_option maxRecDepth 100000
namespace L2
open PySem PySem.Spec PyProof.Rows
theorem goAlways {τ : St} {o : Option V} {v : V} {H : Hp} {A B : St → Hp → Prop} (h : A (some v :: τ) H) : gName 0 v (o :: τ) H fun σ2 H2 => tAlways σ2 H2 fun ok H3 => if ok = true then A σ2 H3 else B σ2 H3 := by
  show if true = true then A (some v :: τ) H else B (some v :: τ) H
  rw [if_pos rfl]
  exact h
theorem take_more {α : Type} {xs : List α} {i : Nat} {x : α} (e : xs[i]? = some x) : xs.take (i + 1) = xs.take i ++ [x] := by rw [List.take_add_one, e]; rfl
section
variable {K : PySem.W.Frag} {H : Hp} {a D : Addr} {xs : List V} {ts : List Th} {te : TE} {tt : TT} {fin : Hp → Prop} {τ : St} {o : Option V}
end
end L2
set_option Elab.async false
set_option linter.all false
set_option maxRecDepth 100000
namespace K01
open PySem PySem.Spec PyProof.Rows L2
def gdC (c : Nat) : Prop := 32 ≤ c ∧ c ≤ 126 ∧ c ≠ 37
def gdS (x : Str) : Prop := ∀ c ∈ x.cps.toList, gdC c
mutual
def gdT : Th → Prop
  | .str x => gdS x ∧ x.length ≤ 1000
  | .tup ts => gdTs ts
  | _ => True
def gdTs : List Th → Prop
  | [] => True
  | t :: ts => gdT t ∧ gdTs ts
end
mutual
def szT : Th → Nat
  | .tup ts => szTs ts + 1
  | _ => 1
def szTs : List Th → Nat
  | [] => 0
  | t :: ts => szT t + szTs ts
end
mutual
def dpT : Th → Nat
  | .tup ts => dpTs ts + 1
  | _ => 0
def dpTs : List Th → Nat
  | [] => 0
  | t :: ts => max (dpT t) (dpTs ts)
end
mutual
def wdT : Th → Nat
  | .tup ts => max ts.length (wdTs ts)
  | _ => 0
def wdTs : List Th → Nat
  | [] => 0
  | t :: ts => max (wdT t) (wdTs ts)
end
def LET : Str := "abcdefghijklmnopqrstuvwxyz"
def SGN : Str := " !\"#$&'()*+,-./0123456789:;<=>?\x40ABCDEFGHIJKLMNOPQRSTUVWXYZ[\\]^_`abcdefghijklmnopqrstuvwxyz{|}~"
def within (c : Nat) (j : Str) : Bool := !(Builtin.Str.occurrences j ⟨#[c]⟩ 0 j.length 1).isEmpty
def inL (c : Nat) : Bool := within c LET
def nameTh : Th → Bool
  | .str x => decide (1 ≤ x.length) && decide (x.length ≤ 8) && x.cps.toList.all inL
  | _ => false
def wholeTh (lo hi : Int) : Th → Bool
  | .int i => decide (lo ≤ i) && decide (i ≤ hi)
  | _ => false
def textTh : Th → Bool
  | .str x => decide (x.length ≤ 200)
  | _ => false
def ltTh : Th → Th → Bool
  | .int i, .int j => decide (i < j)
  | .str x, .str y => decide (x.cps.toList < y.cps.toList)
  | _, _ => false
def risesTh (ts : List Th) : Bool := (List.zipWith ltTh ts (ts.drop 1)).all id
def labTh (b : Bool) (t : Th) : Bool := if b then nameTh t else wholeTh 1 999 t
def pairTh : Th → Bool
  | .tup [_, _] => true
  | _ => false
def partsTh : Th → List Th
  | .tup ts => ts
  | _ => []
def pairsTh : Th → Bool
  | .tup ts => ts.all pairTh
  | _ => false
def fstTh : Th → Th
  | .tup [a, _] => a
  | t => t
def sndTh : Th → Th
  | .tup [_, b] => b
  | t => t
def labsTh (b : Bool) (ts : List Th) : Bool := ts.all (labTh b) && risesTh ts
def behTh (s t : Th) : Bool :=
  if eqT s "whole" = true then wholeTh (-1000000000000000000) 1000000000000000000 t else if eqT s "text" = true then textTh t else if eqT s "row" = true then isiT "tuple" t
  else if eqT s "map" = true then pairsTh t && labsTh true ((partsTh t).map fstTh) else if eqT s "rec" = true then pairsTh t && labsTh false ((partsTh t).map fstTh) else false
def outTh : Th → Bool
  | .tup [a, b] => !eqT a "arm" && behTh a b
  | .tup [a, b, _] => eqT a "arm" && wholeTh 1 999 b
  | _ => false
def kidsTh : Th → List Th
  | .tup [a, b] => if eqT a "row" = true then partsTh b else if (eqT a "map" || eqT a "rec") = true then (partsTh b).map sndTh else []
  | .tup [_, _, c] => [c]
  | _ => []
def lvl : Nat → List Th → Bool
  | 0, l => l.isEmpty
  | n + 1, l => l.isEmpty || (l.all outTh && lvl n (l.flatMap kidsTh))
def isR : Nat → Th → Bool
  | 0, _ => false
  | n + 1, t => outTh t && (kidsTh t).all (isR n)
structure Fine (t : Th) (s d w : Nat) : Prop where
  gd : gdT t
  sz : szT t ≤ s
  dp : dpT t ≤ d
  wd : wdT t ≤ w
theorem ltCps_eq : ∀ a b : List Nat, ltCps a b = decide (a < b)
  | [], [] => by simp [ltCps]
  | [], _ :: _ => by simp [ltCps]
  | _ :: _, [] => by simp [ltCps]
  | a :: r, b :: t => by
    simp only [ltCps, ltCps_eq r t, List.cons_lt_cons_iff]
    by_cases h1 : a < b <;> by_cases h2 : a = b <;> by_cases h3 : r < t <;> simp [h1, h2, h3]
def ltS (x y : Str) : Prop := x.cps.toList < y.cps.toList
theorem str_ext {x y : Str} (h : x.cps.toList = y.cps.toList) : x = y := by
  cases x; cases y
  simp only at h
  congr
  exact Array.toList_inj.mp h
theorem ltS_of {x y : Str} (h : ¬ ltS y x) (n : x ≠ y) : ltS x y := by
  by_cases z : ltS x y
  · exact z
  · exact absurd (str_ext (List.le_antisymm (List.not_lt.mp h) (List.not_lt.mp z))) n
def adj {α : Type} (r : α → α → Prop) : List α → Prop
  | a :: b :: l => r a b ∧ adj r (b :: l)
  | _ => True
theorem sortedS_adj : ∀ {ns : List Str}, sortedS ns = true → ns.Nodup → adj ltS ns
  | [], _, _ => trivial
  | [a], _, _ => trivial
  | a :: b :: l, h, n => by
    have h' : (!ltCps b.cps.toList a.cps.toList && risingS b l) = true := h
    rw [Bool.and_eq_true] at h'
    have n' := List.nodup_cons.mp n
    refine ⟨ltS_of (fun z => ?_) (fun z => ?_), sortedS_adj (ns := b :: l) h'.2 n'.2⟩
    · have := h'.1
      rw [ltCps_eq, decide_eq_true (show b.cps.toList < a.cps.toList from z)] at this
      cases this
    · exact n'.1 (by rw [z]; exact List.mem_cons_self)
theorem sortedI_adj {ns : List Int} (h : ns.Pairwise (· ≤ ·)) (n : ns.Nodup) : ns.Pairwise (· < ·) := by
  induction ns with
  | nil => exact .nil
  | cons a l ih =>
    have h' := List.pairwise_cons.mp h
    have n' := List.nodup_cons.mp n
    refine List.pairwise_cons.mpr ⟨fun b m => ?_, ih h'.2 n'.2⟩
    have := h'.1 b m
    have : a ≠ b := fun z => n'.1 (by rw [z]; exact m)
    omega
end K01
set_option Elab.async false
set_option linter.all false
set_option maxRecDepth 100000
namespace L2
open PySem PySem.Spec PyProof.Rows
section
variable {X : Cx}
end
end L2
set_option maxRecDepth 100000
set_option linter.all false
namespace RevA
open PySem
theorem init_rev : Slot "reversed" "__init__" "object.__init__" :=
  .of (owner := "object") (n := "__init__") (by rw [typeLookup_type, builtinLookup_eq_fast]; kernel_rfl) (by decide +kernel) (by decide +kernel) (by decide +kernel) (by first | exact .inl (by decide +kernel) | exact .inr (by decide +kernel)) (by rw [isSubtype_type]; kernel_rfl)
theorem called_rev : TypeCalled "reversed" "reversed.__new__" "object.__init__" :=
  ⟨by decide +kernel, PySem.F.create_reversed, ⟨_, _, PySem.F.mro_reversed⟩, PySem.F.made_reversed, by decide +kernel, PySem.F.sub_reversed_self, init_rev⟩
theorem no_rev : typeLookup (.type "tuple") "__reversed__" = pure none := by rw [typeLookup_type, builtinLookup_eq_fast]; kernel_rfl
abbrev tO (dd : Option Addr) (its : Array Value) (n : Nat) (sl : Array (Option Value)) : Obj := { cls := .type "tuple", dict := dd, data := .seq its n, slots := sl }
abbrev rvO (t : Addr) (i : Int) : Obj := { cls := .type "reversed", data := .fields #[.ref t, rawInt i] }
theorem rev_new (t : Addr) (its : Array Value) (n : Nat) (dd : Option Addr) (sl : Array (Option Value)) (hz : ((its.size : Nat) : Int) < 2 ^ 63) :
    Meets (Builtin.«reversed.__new__» ⟨[.type "reversed", .ref t], []⟩) (fun _ R s => s.heap.get? t = some (tO dd its n sl) ∧ ∀ tk, R (.ok (.ret (.ref s.heap.objs.size))) { s with heap := s.heap.push (rvO t ((its.size : Int) - 1)), toks := tk }) :=
  .of_wp fun prog w A R s h => by
    obtain ⟨hp, g, d, tk, os⟩ := s
    obtain ⟨hl, h⟩ := h
    have hT : (⟨hp, g, d, tk, os⟩ : Shared).TypeIs (.ref t) "tuple" := ⟨_, hl, rfl⟩
    unfold Builtin.«reversed.__new__»
    refine wpAny_bind (wpAny_of_eq (newClass_reversed _) ?_)
    try dsimp only
    refine wpAny_bind (wpAny_of_eq (a := ()) (by first | rfl | kernel_rfl) ?_)
    refine wpAny_bind (wpAny_of_eq (a := ()) (by first | rfl | kernel_rfl) ?_)
    try dsimp only
    refine wpAny_bind (wpAny_specialOf hT no_rev ?_)
    have f1 : isSubtype (.type "tuple") (.type "dict") = pure false := by rw [isSubtype_type]; kernel_rfl
    have f2 := PySem.F.slot_tuple_getitem.lookup
    have z63 : ((its.size : Nat) : Int) < 2 ^ 63 := hz
    iterate 10 (first | with_reducible refine wpAny_typeOf hT ?_ | wp_step)
    refine wpAny_bind (PyProof.Rows.len_tuple (s := ⟨hp, g, d, tk, os⟩) ⟨_, hl, rfl, n, rfl⟩ z63 ?_)
    refine wpAny_bind (wpAny_of_eq (a := some (its.size : Int)) rfl ?_)
    refine wpAny_bind (m := Builtin.SmallTypes.newRecord _ _) ?_
    unfold Builtin.SmallTypes.newRecord
    refine wpAny_newObj_type ?_
    exact wpAny_pure ⟨_, rfl, h _⟩
section
variable {prog : Program} {w : World} {A : Around} {E : Value → Shared → Prop} {s : Shared} {r t : Addr} {its : Array Value} {i : Int}
theorem call_rev {Q : Value → Shared → Prop} (ht : PyProof.Rows.IsTup s.heap t its) (hz : ((its.size : Nat) : Int) < 2 ^ 63) (h : ∀ tk, Q (.ref s.heap.objs.size) { s with heap := s.heap.push (rvO t ((its.size : Int) - 1)), toks := tk }) :
    wpAny (model prog w) A (call (.type "reversed") [.ref t]) Q E s := by
  obtain ⟨⟨oc, od, dt, sl⟩, ho, hc, n, hd⟩ := ht
  obtain rfl : oc = _ := hc
  obtain rfl : dt = _ := hd
  exact callType_new called_rev (by decide) (PySem.F.typeCall_reversed_1 _) (PySem.F.newCall_reversed_1 _) (fun obj => PySem.F.args_object_init_2 obj _) PySem.F.entry_reversed_new (rev_new t its n od sl hz) ⟨ho, fun tk => ⟨⟨_, Heap.get?_push_size _ rfl, rfl⟩, h tk⟩⟩
def IsRv (h : Heap) (r t : Addr) (i : Int) : Prop := ∃ o, h.get? r = some o ∧ o.cls = .type "reversed" ∧ o.data = .fields #[.ref t, rawInt i]
theorem IsRv.ty (x : IsRv s.heap r t i) : s.TypeIs (.ref r) "reversed" := let ⟨o, ho, hc, _⟩ := x; ⟨o, ho, hc⟩
theorem slot_next : Slot "reversed" "__next__" "reversed.__next__" :=
  .of (owner := "reversed") (n := "__next__") (by rw [typeLookup_type, builtinLookup_eq_fast]; kernel_rfl) (by decide +kernel) (by decide +kernel) (by decide +kernel) (by first | exact .inl (by decide +kernel) | exact .inr (by decide +kernel)) (by rw [isSubtype_type]; kernel_rfl)
theorem entry_next : entryFor table "reversed.__next__" = some Builtin.«reversed.__next__» := entryFor_of_tree (by kernel_rfl)
theorem args_next (a : Value) : argsOk "reversed.__next__" ⟨[a], []⟩ := by unfold argsOk; kernel_rfl
end
end RevA
set_option maxRecDepth 100000
set_option linter.all false
namespace RevA
open PySem PyProof.Rows
section
variable {prog : Program} {w : World} {A : Around} {E : Value → Shared → Prop} {s : Shared} {r t : Addr} {its : Array Value}
theorem next_item {i : Nat} {x : Value} {Q : Option Value → Shared → Prop} (hr : IsRv s.heap r t (i : Int)) (ht : IsTup s.heap t its) (hx : its[i]? = some x) (hz : ((its.size : Nat) : Int) < 2 ^ 63)
    (h : ∀ h' tk, IsRv h' r t ((i : Int) - 1) → Heap.SameBut r s.heap h' → Q (some x) { s with heap := h', toks := tk }) : wpAny (model prog w) A (pyNext (.ref r)) Q E s := by
  obtain ⟨o, ho, hc, hd⟩ := id hr
  have hi : i < its.size := (Array.getElem?_eq_some_iff.mp hx).1
  unfold pyNext
  refine wpAny_bind (wpAny_attempt (wpAny_callSpecial?_slot (name := Str.ofString "__next__") hr.ty slot_next (wpAny_call_entry slot_next hr.ty entry_next ?_ (args_next _))))
  unfold Builtin.«reversed.__next__»
  refine wpAny_bind (wpAny_of_eq (a := (Value.ref r, [])) rfl ?_)
  try dsimp only
  refine wpAny_bind (wpAny_field ho hd (x := .ref t) rfl ?_)
  refine wpAny_bind (wpAny_field ho hd (x := rawInt (i : Int)) rfl ?_)
  show wpAny _ _ (if (i : Int) < 0 then _ else _) _ _ s
  rw [if_neg (by omega)]
  refine wpAny_bind (wpAny_specialOf ht.typeIs PySem.F.slot_tuple_getitem.lookup ?_)
  rw [if_neg (by decide)]
  refine wpAny_bind (wpAny_mkInt ?_)
  refine wpAny_bind (wpAny_attempt ?_)
  have e : seqIndex? (i : Int) its.size = some i := by
    unfold seqIndex?
    have n0 : ¬ ((i : Int) < 0) := by omega
    have c : (decide (0 ≤ (i : Int)) && decide ((i : Int) < (its.size : Int))) = true := by simp; omega
    simp only [n0, if_false, c, if_true, Int.toNat_natCast]
  refine getItem_tuple (s := { s with toks := s.toks + 1 }) (j := i) ht (by omega) (by omega) e hx ?_
  refine wpAny_bind (wpAny_field (s := { s with toks := s.toks + 1 }) ho hd (x := rawInt (i : Int)) rfl ?_)
  refine wpAny_bind (wpAny_setField (s := { s with toks := s.toks + 1 }) ho hd (by simp) ?_)
  refine wpAny_pure ⟨x, rfl, wpAny_pure (h _ _ ⟨_, Heap.get?_update_self _ ho (Obj.isFreed_of_fields (Obj.data_mapFields hd _)), (Obj.cls_mapFields ..).trans hc, ?_⟩ (Heap.SameBut.update ..))⟩
  rw [Obj.data_mapFields hd]; simp
theorem next_end {Q : Option Value → Shared → Prop} (hh : A.handled = none) (hr : IsRv s.heap r t (-1))
    (h : ∀ h', (∀ b u, b ≠ r → s.heap.get? b = some u → h'.get? b = some u) → Q none { s with heap := h' }) : wpAny (model prog w) A (pyNext (.ref r)) Q E s := by
  obtain ⟨o, ho, hc, hd⟩ := id hr
  unfold pyNext
  refine wpAny_bind (wpAny_attempt (wpAny_callSpecial?_slot (name := Str.ofString "__next__") hr.ty slot_next (wpAny_call_entry slot_next hr.ty entry_next ?_ (args_next _))))
  unfold Builtin.«reversed.__next__»
  refine wpAny_bind (wpAny_of_eq (a := (Value.ref r, [])) rfl ?_)
  try dsimp only
  refine wpAny_bind (wpAny_field ho hd (x := .ref t) rfl ?_)
  refine wpAny_bind (wpAny_field ho hd (x := rawInt (-1)) rfl ?_)
  show wpAny _ _ (if (-1 : Int) < 0 then _ else _) _ _ s
  rw [if_pos (by decide)]
  refine wpAny_bind (wpAny_rule ?_)
  refine wpAny_bind (wpAny_bind (wpAny_setField ho hd (by simp) ?_))
  have h1 := Heap.get?_update_self (Obj.mapFields (·.setIfInBounds 1 (rawInt (-1)))) ho (Obj.isFreed_of_fields (Obj.data_mapFields hd _))
  have d1 := Obj.data_mapFields hd (·.setIfInBounds 1 (rawInt (-1)))
  refine wpAny_setField h1 d1 (by simp) ?_
  refine wpAny_bind ?_
  show wpAny _ _ (newExc (.type "StopIteration") [] >>= _) _ _ _
  refine wpAny_bind ?_
  simp only [newExc, newTuple]
  refine wpAny_bind (wpAny_newObj_type ?_ (by size_fits))
  refine wpAny_bind (m := firstArgMember _ _) (wpAny_of_eq (a := Value.none) (by first | rfl | (simp only [firstArgMember]; rfl)) ?_)
  refine wpAny_newObj_type ?_ (by size_fits)
  refine wpAny_raiseNew_none (A := A.in1) hh ?_
  refine wpAny_bind (wpAny_isInstance (T := "StopIteration") (b := true) ⟨_, Heap.get?_push_size _ rfl, rfl⟩ isSubtype_stop ?_)
  refine wpAny_pure (h _ fun b u hb q => ?_)
  exact Heap.get?_push_of_some _ (Heap.get?_push_of_some _ ((Heap.get?_update_other _ _ (Ne.symm hb)).trans ((Heap.get?_update_other _ _ (Ne.symm hb)).trans q)))
end
end RevA
set_option maxRecDepth 100000
set_option linter.all false
namespace RevA
open PySem PyProof.Rows
theorem slot_iter : Slot "reversed" "__iter__" "reversed.__iter__" :=
  .of (owner := "reversed") (n := "__iter__") (by rw [typeLookup_type, builtinLookup_eq_fast]; kernel_rfl) (by decide +kernel) (by decide +kernel) (by decide +kernel) (by first | exact .inl (by decide +kernel) | exact .inr (by decide +kernel)) (by rw [isSubtype_type]; kernel_rfl)
theorem args_iter (a : Value) : argsOk "reversed.__iter__" ⟨[a], []⟩ := by unfold argsOk; kernel_rfl
theorem entry_iter : entryFor table "reversed.__iter__" = some Builtin.«dict_keyiterator.__iter__» :=
  entryFor_alias (id' := "dict_keyiterator.__iter__") (by kernel_rfl) (by first | rfl | decide +kernel) (by decide +kernel) (by kernel_rfl)
section
variable {prog : Program} {w : World} {A : Around} {E : Value → Shared → Prop} {s : Shared} {r t : Addr} {its : Array Value}
theorem iter_self {i : Int} {Q : Value → Shared → Prop} (hr : IsRv s.heap r t i) (h : Q (.ref r) s) : wpAny (model prog w) A (pyIter (.ref r)) Q E s := by
  refine wpAny_pyIter_slot hr.ty slot_iter (wpAny_call_entry slot_iter hr.ty entry_iter ?_ (args_iter _))
  change wpAny _ _ (ret (.ref r)) _ _ s
  exact wpAny_pure ⟨_, rfl, "reversed", _, hr.ty, slot_next.lookup, h⟩
theorem IsRv.at {h h' : Heap} {i : Int} (x : IsRv h r t i) (e : ∀ o, h.get? r = some o → h'.get? r = some o) : IsRv h' r t i := let ⟨o, ho, q⟩ := x; ⟨o, e o ho, q⟩
end
section
variable {prog : Program} {w : World} {A : Around} {E : Value → Shared → Prop} {s : Shared} {R : Result → Shared → Prop} {I S : Addr} {fp wr : List Addr} {n : Nat} {P : Nat → Value → Prop} {St : Nat → Heap → Prop} {T : String}
end
end RevA
set_option maxRecDepth 100000
set_option linter.all false
namespace RevA
open PySem PyProof.Rows
section
variable {prog : Program} {w : World} {A : Around} {E : Value → Shared → Prop} {s : Shared} {I : Addr} {fp wr : List Addr} {n : Nat} {P : Nat → Value → Prop} {St : Nat → Heap → Prop} {T : String}
end
end RevA
set_option maxRecDepth 100000
set_option linter.all false
namespace RevA
open PySem PyProof.Rows
section
variable {prog : Program} {w : World} {A : Around} {E : Value → Shared → Prop} {s : Shared} {r t : Addr} {its : Array Value}
end
end RevA
set_option Elab.async false
set_option linter.all false
set_option maxRecDepth 100000
namespace RevA
open PySem PyProof.Rows
section
variable {prog : Program} {w : World} {A : Around} {E : Value → Shared → Prop} {s : Shared} {I : Addr} {fp wr : List Addr} {n : Nat} {P : Nat → Value → Prop} {St : Nat → Heap → Prop} {T : String}
end
section
variable {prog : Program} {w : World} {A : Around} {E : Value → Shared → Prop} {s : Shared}
end
end RevA
set_option Elab.async false
set_option linter.all false
set_option maxRecDepth 100000
namespace IdxT
open PySem PySem.SeqAt PySem.MeetsSeq
open PySem.AutoSeq1 (wpAny_loadPart')
theorem wpAny_forIn_rng {M : Model} {A : Around} {E : Value → Shared → Prop} {s : Shared} {β : Type} (f : Nat → β → Sem (ForInStep β)) (I : List Nat → β → Shared → Prop) (Q : β → Shared → Prop)
    (turn : ∀ x rest b s, I (x :: rest) b s → wpAny M A (f x b) (fun r s' => match r with | .yield b' => I rest b' s' | .done b' => Q b' s') E s)
    (fin : ∀ b s, I [] b s → Q b s) (k : Nat) (b : β) (h : I (List.range' 0 k) b s) : wpAny M A (forIn [0:k] b f) Q E s := by
  rw [Std.Legacy.Range.forIn_eq_forIn_range']
  have e : List.range' ([0:k] : Std.Legacy.Range).start ([0:k] : Std.Legacy.Range).size ([0:k] : Std.Legacy.Range).step = List.range' 0 k := by simp [Std.Legacy.Range.size]
  rw [e]
  exact wpAny_forIn_list f I Q turn fin _ b h
theorem tuple_index (l : Addr) (items : Array Value) (n : Nat) (dd : Option Addr) (sl : Array (Option Value)) (x : Value) (e : Value → Bool) (j : Nat) (hj : j < items.size) (hit : e items[j] = true) (hno : ∀ m (hm : m < items.size), m < j → e items[m] = false) :
    Meets (Builtin.«tuple.index» ⟨[.ref l, x], []⟩)
      (fun A R s => s.heap.get? l = some { cls := .type "tuple", dict := dd, data := .seq items n, slots := sl } ∧ (∀ y, y ∈ items → EqAt A.in1 s y x (e y)) ∧ R (.ok (.ret (.int j s.toks))) { s with toks := s.toks + 1 }) :=
  .of_wp fun prog w A R s h => by
    obtain ⟨hp, g, d, tk, os⟩ := s; obtain ⟨hl, he, h⟩ := h
    wp_walk using wpAny_loadPart' hl, wpAny_forIn_rng _ (fun rest b s' => b.1 = none ∧ s' = ⟨hp, g, d, tk, os⟩ ∧ ∃ i, i ≤ j ∧ rest = List.range' i (items.size - i)) _
    case turn =>
      rintro y rest b s' ⟨hb, rfl, i, hi, er⟩
      have hlt : i < items.size := by omega
      rw [show items.size - i = (items.size - (i + 1)) + 1 by omega, List.range'_succ] at er
      injection er with e1 e2
      subst e1
      have hx : items[y]? = some items[y] := Array.getElem?_eq_getElem hlt
      rw [hx]
      refine wpAny_bind (he _ (Array.getElem_mem hlt) prog w _ _ ?_)
      by_cases hy : y = j
      · subst hy
        rw [hit]
        wp_walk
        exact ⟨_, rfl, h⟩
      · rw [hno y hlt (by omega)]
        wp_walk
        exact ⟨rfl, rfl, y + 1, by omega, e2⟩
    case fin =>
      rintro ⟨b1, b2⟩ s' ⟨hb, rfl, i, hi, er⟩
      exfalso
      have := congrArg List.length er
      simp at this
      omega
    case h =>
      refine ⟨rfl, rfl, 0, Nat.zero_le _, ?_⟩
      simp
end IdxT
namespace L2
open PySem PySem.Spec PyProof.Rows
def tRevT (K : PySem.W.Frag) (t : TA) : TE := fun σ H Q => t σ H fun vs H1 => ∃ p xs, vs = [.ref p] ∧ SqT K H1 p xs ∧ ∀ q, H1 q = none → Q (.ref q) (upd H1 q (.lst xs.reverse))
def tRevL (K : PySem.W.Frag) (t : TA) : TE := fun σ H Q => t σ H fun vs H1 => ∃ p xs, vs = [.ref p] ∧ SqL K H1 p xs ∧ ∀ q, H1 q = none → Q (.ref q) (upd H1 q (.lst xs.reverse))
section
variable {X : Cx} {p p2 pos pos2 : Pos} {a : Expr} {t : TA}
end
end L2
set_option Elab.async false
set_option linter.all false
set_option maxRecDepth 100000
namespace L2
open PySem PySem.Spec PyProof.Rows
section
variable {X : Cx} {e : Expr} {t1 t2 : TE}
end
section
variable {X : Cx} {p p2 pos pos2 : Pos} {a : Expr} {t : TA}
def tTupRev (K : PySem.W.Frag) (t : TA) : TE := fun σ H Q => t σ H fun vs H1 => ∃ p xs, vs = [.ref p] ∧ SqL K H1 p xs ∧ ∀ q, H1 q = none → Q (.ref q) (upd H1 q (.tup xs.reverse))
def Irv (K : PySem.W.Frag) (a : Addr) (xs : List V) : It := ⟨fun i H => i < xs.length ∧ SqT K H a xs, fun i H x H' => H' = H ∧ xs.reverse[i]? = some x, fun i H => xs.length ≤ i⟩
theorem turn_rev {P : Program} {w : World} {K : PySem.W.Frag} {tg : Expr} (a it : Addr) (xs : List V) (hz : xs.length ≤ sizeLine) : Turn P w K tg (Irv K a xs) [it] it (fun i h => i ≤ xs.length ∧ RevA.IsRv h it a ((xs.length : Int) - 1 - (i : Int))) where
  mem := by simp
  obj := fun i h st b hb => by
    have e : b = it := by simpa using hb
    subst e
    obtain ⟨_, o, e, c, d⟩ := st
    exact ⟨o, e, fun v z => by rw [d] at z; cases z⟩
  keep := fun i h h' st k => ⟨st.1, st.2.at fun o e => k it (by simp) o e⟩
  item := by
    intro X hP hw hK hc i pins s σ H E I hf st hg
    subst hP hw hK
    obtain ⟨hi, hq⟩ := hg
    obtain ⟨its, rv, p, _⟩ := I.tuple hq
    have hl := rv.length
    have hsz : its.toArray.size = xs.length := by rw [List.size_toArray]; exact hl.symm
    obtain ⟨f0, f1, f2, f3, f4, f5⟩ := hf it (by simp)
    have hr := st.2
    rw [show (xs.length : Int) - 1 - (i : Int) = ((xs.length - 1 - i : Nat) : Int) by omega] at hr
    have hx : xs[xs.length - 1 - i]? = some (xs[xs.length - 1 - i]'(by omega)) := List.getElem?_eq_getElem (by omega)
    obtain ⟨u, hu, ru⟩ := rv.get hx
    have h63 : ((its.toArray.size : Nat) : Int) < 2 ^ 63 := by have := sizeLine_eq; omega
    refine RevA.next_item hr p (x := u) (by simpa using hu) h63 fun h' tk hr' hs => ?_
    have I1 : Inv X pins σ H { s with heap := h', toks := tk } := I.turned (fun b o hb e => (hs.2 b hb).trans e) f0 f1 f3 f4 f5
    obtain ⟨o, e, c, d⟩ := id hr'
    rw [show ((xs.length - 1 - i : Nat) : Int) - 1 = (xs.length : Int) - 1 - ((i + 1 : Nat) : Int) by omega] at hr'
    refine ⟨u, rfl, go_of (s := { s with heap := h', toks := tk }) e c d (by decide) ⟨_, H, I1, ru, ⟨rfl, ?_⟩, ⟨hi, hr'⟩, fun b hb => (hf b hb).1⟩⟩
    rw [List.getElem?_reverse hi]
    exact hx
  done := by
    intro X hP hw hK hc i pins s σ H E I hf st hg
    subst hP hw hK
    obtain ⟨f0, f1, f2, f3, f4, f5⟩ := hf it (by simp)
    have hr := st.2
    have hi : (i : Int) = xs.length := by have : xs.length ≤ i := hg; have := st.1; omega
    rw [show (xs.length : Int) - 1 - (i : Int) = -1 by omega] at hr
    exact RevA.next_end (I.ok.hd hc) hr fun h' k => ⟨rfl, I.turned (t' := s.toks) (fun b o hb e => k b o hb e) f0 f1 f3 f4 f5⟩
  self := fun _ _ _ _ _ st h => RevA.iter_self st.2 h
def iRev (K : PySem.W.Frag) (t : TA) : TI := fun σ H R => t σ H fun vs H1 => ∃ p xs, vs = [.ref p] ∧ SqT K H1 p xs ∧ R (Irv K p xs) H1
theorem pi_rev {tg : Expr} (hgz : Gl X "reversed") (hmz : X.mg "reversed" = none) (ha : PA X [a] t)
    (he2 : starEach [a] X.env = (false, eval a X.env) :: starEach [] X.env := by rfl) (hpl : (backTo pos2 (starEach [] X.env)).any (·.1) = false := by rfl) :
    PI X tg (.Call (.Name "reversed" p2) [a] [] pos2) (iRev X.K t) := by
  intro pins s σ H R I h
  refine wpAny_Call_Name_kw (ld_blt I hgz hmz (by decide +kernel : bootBuiltins "reversed" = some (.type "reversed")) ?_ (by decide) (by decide))
  refine PyProof.Rows.callWith_type1 (thn (ha pos2 pins s σ H _ I h) fun us s1 ⟨vs, H1, I1, r1, q1⟩ => ?_) he2 hpl
  obtain ⟨l, xs, rfl, hx, q⟩ := q1
  obtain ⟨u1, rfl, e1⟩ := vals1 r1
  cases e1
  obtain ⟨its, rv, pl, z⟩ := I1.tuple hx
  have hl := rv.length
  have hsz : its.toArray.size = xs.length := by rw [List.size_toArray]; exact hl.symm
  have h63 : ((its.toArray.size : Nat) : Int) < 2 ^ 63 := by have := sizeLine_eq; omega
  refine RevA.call_rev pl h63 fun tk => ?_
  have J : Inv X pins σ H1 { s1 with heap := s1.heap.push (RevA.rvO l ((its.toArray.size : Int) - 1)), toks := tk } := I1.kept fun b o e => Heap.get?_push_of_some _ e
  have rv1 : RevA.IsRv (s1.heap.push (RevA.rvO l ((its.toArray.size : Int) - 1))) s1.heap.objs.size l ((its.toArray.size : Int) - 1) := ⟨_, Heap.get?_push_size _ rfl, rfl, rfl⟩
  refine RevA.iter_self (s := { s1 with heap := _, toks := tk }) rv1 ?_
  refine ⟨_, [s1.heap.objs.size], _, _, H1, rfl, J, turn_rev l _ xs z, ⟨Nat.zero_le _, ?_⟩, fun b hb => ?_, q⟩
  · rw [hsz] at rv1
    simpa [hsz] using rv1
  · have e : b = s1.heap.objs.size := by simpa using hb
    subst e
    exact I1.fpOk (Nat.le_refl _) (I1.hok.fresh (Nat.le_refl _))
end
theorem for_rev {K : PySem.W.Frag} {a : Addr} {xs : List V} {g : TG} {tb : TS} {D : Ends} {σ : St} {H : Hp} (Pv : Nat → St → Hp → Prop) (h0 : Pv 0 σ H) (hl : ∀ i σ H, i ≤ xs.length → Pv i σ H → SqT K H a xs)
    (hs : ∀ i x σ H, xs.reverse[i]? = some x → Pv i σ H → g x σ H fun σ2 H2 => tb { D with nx := Pv (i + 1), ct := Pv (i + 1), bk := D.nx } σ2 H2) (hd : ∀ σ H, Pv xs.length σ H → D.nx σ H) :
    ∃ W : Nat → Nat → St → Hp → Prop, (∃ m, W 0 m σ H) ∧ ∀ i m σ H, W i m σ H →
      ((Irv K a xs).stop i H ∧ D.nx σ H) ∨ ((Irv K a xs).go i H ∧ ∃ N : St → Hp → Prop, (∀ σ' H', N σ' H' → ∃ m', m' < m ∧ W (i + 1) m' σ' H') ∧ ∀ x H', (Irv K a xs).yld i H x H' → g x σ H' fun σ2 H2 => tb { D with nx := N, ct := N, bk := D.nx } σ2 H2) := by
  refine ⟨fun i m σ H => m = xs.length - i ∧ i ≤ xs.length ∧ Pv i σ H, ⟨xs.length, by simp, Nat.zero_le _, h0⟩, ?_⟩
  rintro i m σ H ⟨rfl, hi, p⟩
  have q := hl i σ H hi p
  by_cases hlt : i < xs.length
  · refine .inr ⟨⟨hlt, q⟩, Pv (i + 1), fun σ' H' p' => ⟨xs.length - (i + 1), by omega, rfl, hlt, p'⟩, fun x H' y => ?_⟩
    obtain ⟨e, y⟩ := y
    subst e
    exact hs i x σ _ y p
  · have e : i = xs.length := by omega
    subst e
    exact .inl ⟨Nat.le_refl _, hd σ H p⟩
section
variable {X : Cx}
theorem eqStrs {ss : List Str} {us : List Value} (r : Vals (ss.map V.str) us) : ∀ y ∈ us, ∃ x t, x ∈ ss ∧ y = .str x t := by
  induction ss generalizing us with
  | nil => intro y m; cases r; exact (List.not_mem_nil m).elim
  | cons x ss ih =>
    intro y m
    cases r with
    | cons e t =>
      obtain ⟨tk, rfl⟩ := e
      rcases List.mem_cons.mp m with rfl | m
      · exact ⟨x, tk, List.mem_cons_self, rfl⟩
      · obtain ⟨x', t', mx, e⟩ := ih t y m
        exact ⟨x', t', List.mem_cons_of_mem _ mx, e⟩
def isS (z : Str) (v : Value) : Bool := match v with
  | .str x _ => decide (x = z)
  | _ => false
theorem isS_at {ss : List Str} {us : List Value} (r : Vals (ss.map V.str) us) {m : Nat} (h : m < us.length) (z : Str) : isS z us[m] = decide (ss[m]? = some z) := by
  have hl : m < ss.length := by have := r.length; rw [List.length_map] at this; omega
  obtain ⟨u, e, q⟩ := r.get (i := m) (x := .str ss[m]) (by rw [List.getElem?_map, List.getElem?_eq_getElem hl]; rfl)
  rw [List.getElem?_eq_getElem h] at e
  cases e
  obtain ⟨t, e2⟩ := q
  rw [e2, List.getElem?_eq_getElem hl]
  show decide (ss[m] = z) = _
  simp
def rIndex (Sq : Hp → Addr → List V → Prop) : V → List V → Hp → VK → Prop := fun x xs H Q => ∃ (a : Addr) (ss : List Str) (z : Str) (j : Nat), x = .ref a ∧ xs = [.str z] ∧ Sq H a (ss.map V.str) ∧ ss[j]? = some z ∧ (∀ m, m < j → ss[m]? ≠ some z) ∧ Q (.int j) H
theorem mt_indexT : MtM X "tuple.index" (rIndex (SqT X.K)) := by
  intro pins s σ H x vs v us Q I rx rv h
  obtain ⟨a, ss, z, j, rfl, rfl, hq, hj, hno, q⟩ := h
  cases rx
  obtain ⟨u, rfl, ru⟩ := rv.one
  obtain ⟨tz, rfl⟩ := ru
  obtain ⟨its, r, ⟨⟨cl, dd, dt, sl⟩, e, hc, n, hd⟩, hz⟩ := I.tuple hq
  simp only at hc hd
  subst hc hd
  have hl := r.length
  rw [List.length_map] at hl
  have hjl := (List.getElem?_eq_some_iff.mp hj).1
  refine call_meets PySem.F.slot_tuple_index ⟨_, e, rfl⟩ PySem.F.entry_tuple_index (PySem.F.args_tuple_index_2 _ _) (IdxT.tuple_index a its.toArray n dd sl (.str z tz) (isS z) j (by simp; omega) ?_ fun m hm h2 => ?_) ⟨e, fun y hy => ?_, ⟨.int j, H, I.tok _, ⟨_, rfl⟩, q⟩⟩
  · have := isS_at r (m := j) (by omega) z
    simp only [List.getElem_toArray]
    rw [this, decide_eq_true hj]
  · have := isS_at r (m := m) (by simpa using hm) z
    simp only [List.getElem_toArray]
    rw [this, decide_eq_false (hno m h2)]
  · obtain ⟨x, t, _, rfl⟩ := eqStrs r y (by simpa using hy)
    exact fun prog w E Q hq => wpAny_eqBool_str hq
theorem mt_indexL : MtM X "list.index" (rIndex (SqL X.K)) := by
  intro pins s σ H x vs v us Q I rx rv h
  obtain ⟨a, ss, z, j, rfl, rfl, hq, hj, hno, q⟩ := h
  cases rx
  obtain ⟨u, rfl, ru⟩ := rv.one
  obtain ⟨tz, rfl⟩ := ru
  obtain ⟨its, r, pl, hz⟩ := I.list hq
  obtain ⟨⟨cl, dd, dt, sl⟩, e, hc, n, hd⟩ := pl.isList
  simp only at hc hd
  subst hc hd
  have hl := r.length
  rw [List.length_map] at hl
  have hjl := (List.getElem?_eq_some_iff.mp hj).1
  rw [List.length_map] at hz
  have hsm : (j : Int) < 2 ^ 63 - 1 := by have := sizeLine_eq; omega
  refine call_meets PySem.F.slot_list_index ⟨_, e, rfl⟩ PySem.F.entry_list_index (PySem.F.args_list_index_2 _ _) (SeqAt.list_indexAt a its.toArray n dd sl (.str z tz) (isS z) j (by simp; omega) hsm ?_ fun m hm h2 => ?_) ⟨e, fun y hy => ?_, ⟨.int j, H, I.tok _, ⟨_, rfl⟩, q⟩⟩
  · have := isS_at r (m := j) (by omega) z
    simp only [List.getElem_toArray]
    rw [this, decide_eq_true hj]
  · have := isS_at r (m := m) (by simpa using hm) z
    simp only [List.getElem_toArray]
    rw [this, decide_eq_false (hno m h2)]
  · obtain ⟨x, t, _, rfl⟩ := eqStrs r y (by simpa using hy)
    exact fun prog w E Q hq => wpAny_eqBool_str hq
structure TopD (K : PySem.W.Frag) (w : World) (a : Addr) : Prop where
  at' : ∃ es n, K.lookup a = some ⟨.type "dict", none, .dict es n, #[]⟩ ∧ PySem.W.KeysLit w.params es.toList
def rTopD (K : PySem.W.Frag) (w : World) : R2 := fun x y H Q => ∃ (a : Addr) (z : Str) (v : V) (u : Value), x = .ref a ∧ y = .str z ∧ TopD K w a ∧ PySem.W.nsIn K a z = some (some u) ∧ RelV v u ∧ Q v H
theorem ix_topD : IxR X (rTopD X.K X.w) := by
  intro value slice pins s σ H x y v u Q I rx ry h hs
  obtain ⟨a, z, v', u', rfl, rfl, ⟨es, n, hl, hk⟩, e, r, q⟩ := h
  cases rx
  obtain ⟨t, rfl⟩ := ry
  have hm := PySem.W.mapOf_K (prog := X.prog) I.kIn hl hk
  exact tail_any hm.typeIs slot_dict_getitem.lookup (wpAny_getItem_of (strKind_is X.prog X.w z t) hm (PySem.W.find_K hl e) ⟨v', H, I.tok _, r, q⟩) hs
end
end L2
set_option Elab.async false
set_option linter.all false
set_option maxRecDepth 100000
namespace L2
open PySem PySem.Spec PyProof.Rows
def MFn (P : Program) (w : World) (K : PySem.W.Frag) (mg : Str → Option Value) (base : Heap) (k : Nat) (C : Addr) (m : Str) (ps : List Str) (sp : Sp) : Prop :=
  ∃ f fd, Cls K C ∧ Meth K C m f ∧ FnOk P w K mg base CX0 k f fd ps sp ∧ Binds K fd ps []
def CFn (P : Program) (w : World) (K : PySem.W.Frag) (mg : Str → Option Value) (base : Heap) (k : Nat) (C : Addr) (x : Str) (ps : List Str) (sp : Sp) : Prop :=
  ∃ f fd, Mk K C f ∧ FnOk P w K mg base CX0 k f fd ps sp ∧ Binds K fd ps [] ∧ mg x = some (.ref C)
section
variable {X : Cx} {k : Nat} {C : Addr} {m x : Str} {ps : List Str} {sp : Sp} {o e : Expr} {es : List Expr} {ta : TE} {t : TA} {p pos apos : Pos}
end
end L2
set_option linter.all false
set_option maxRecDepth 100000
namespace EnuT
open PySem
section
variable {prog : Program} {w : World} {A : Around} {E : Value → Shared → Prop} {s : Shared}
theorem nextT {it t : Addr} {i : Nat} {its : Array Value} {x : Value} {Q : Value → Shared → Prop} (hi : s.heap.IsTupleIter it t i) (ht : s.heap.IsTuple t its) (hx : its[i]? = some x)
    (q : ∀ h', h'.IsTupleIter it t (i + 1) → Heap.SameBut it s.heap h' → Q x { s with heap := h' }) : wpAny (model prog w) A (Builtin.SmallTypes.nextOf (.ref it)) Q E s := by
  obtain ⟨u, hu, hc, hd⟩ := id hi; obtain ⟨p, hp, _, n, dp⟩ := ht; unfold Builtin.SmallTypes.nextOf
  refine wpAny_bind (wpAny_callSpecial?_slot (name := Str.ofString "__next__") hi.typeIs F.slot_tuple_iterator_next (wpAny_call_entry F.slot_tuple_iterator_next hi.typeIs F.entry_tuple_iterator_next ?_ (F.args_tuple_iterator_next_1 _)))
  show wpAny _ _ (field (.ref it) 0 >>= _) _ _ s; refine wpAny_bind (wpAny_field hu hd (x := .ref t) rfl ?_)
  show wpAny _ _ (if (Value.ref t == Value.none) = true then _ else _) _ _ s; rw [if_neg (show ¬ ((Value.ref t == Value.none) = true) from Bool.false_ne_true)]
  show wpAny _ _ (field (.ref it) 1 >>= _) _ _ s; refine wpAny_bind (wpAny_field hu hd (x := .int i 0) rfl ?_)
  show wpAny _ _ (seqItems? (.ref t) >>= _) _ _ s; refine wpAny_bind (wpAny_seqItems hp dp ?_)
  simp only [Int.toNat_natCast, hx]; refine wpAny_bind (wpAny_setField hu hd (by simp) (wpAny_pure ⟨x, rfl, wpAny_pure (q _ ?_ (Heap.SameBut.update ..))⟩))
  exact ⟨_, Heap.get?_update_self _ hu (Obj.isFreed_of_fields (Obj.data_mapFields hd _)), (Obj.cls_mapFields ..).trans hc, by rw [Obj.data_mapFields hd]; simp [rawInt]⟩
theorem endT {it t : Addr} {i : Nat} {its : Array Value} {Q : Value → Shared → Prop} (hh : A.handled = none) (hi : s.heap.IsTupleIter it t i) (ht : s.heap.IsTuple t its) (hx : its[i]? = none)
    (q : ∀ h' e, Heap.ExtBut it s.heap h' → (∃ o, h'.get? e = some o ∧ o.cls = .type "StopIteration") → E (.ref e) { s with heap := h' }) : wpAny (model prog w) A (Builtin.SmallTypes.nextOf (.ref it)) Q E s := by
  obtain ⟨u, hu, hc, hd⟩ := id hi; obtain ⟨p, hp, _, n, dp⟩ := ht; unfold Builtin.SmallTypes.nextOf
  refine wpAny_bind (wpAny_callSpecial?_slot (name := Str.ofString "__next__") hi.typeIs F.slot_tuple_iterator_next (wpAny_call_entry F.slot_tuple_iterator_next hi.typeIs F.entry_tuple_iterator_next ?_ (F.args_tuple_iterator_next_1 _)))
  show wpAny _ _ (field (.ref it) 0 >>= _) _ _ s; refine wpAny_bind (wpAny_field hu hd (x := .ref t) rfl ?_)
  show wpAny _ _ (if (Value.ref t == Value.none) = true then _ else _) _ _ s; rw [if_neg (show ¬ ((Value.ref t == Value.none) = true) from Bool.false_ne_true)]
  show wpAny _ _ (field (.ref it) 1 >>= _) _ _ s; refine wpAny_bind (wpAny_field hu hd (x := .int i 0) rfl ?_)
  show wpAny _ _ (seqItems? (.ref t) >>= _) _ _ s; refine wpAny_bind (wpAny_seqItems hp dp ?_)
  simp only [Int.toNat_natCast, hx]; refine wpAny_bind (wpAny_rule (wpAny_bind (wpAny_setField hu hd (by simp) ?_)))
  show wpAny _ _ (newExc (.type "StopIteration") [] >>= _) _ _ _; refine wpAny_bind ?_; simp only [newExc, newTuple]
  refine wpAny_bind (wpAny_newObj_type ?_ (by size_fits)); refine wpAny_bind (m := firstArgMember _ _) (wpAny_of_eq (a := Value.none) (by first | rfl | (simp only [firstArgMember]; rfl)) ?_)
  refine wpAny_newObj_type ?_ (by size_fits); simp only [raiseNew]; refine wpAny_bind (wpAny_handled ?_)
  first | rw [show A.in1.handled = none from hh] | rw [hh]
  refine wpAny_bind (wpAny_pure (wpAny_throw ?_)); exact q _ _ (((Heap.SameBut.update ..).extBut.push _).push _) ⟨_, Heap.get?_push_size _ rfl, rfl⟩
end
theorem drawsT {prog : Program} {w : World} {A : Around} (hh : A.handled = none) (it t : Addr) (hne : t ≠ it) (its : Array Value) :
    Draws prog w A it [it, t] its.size (fun i v => its[i]? = some v) (fun i h => h.IsTupleIter it t i ∧ h.IsTuple t its) where
  live := fun _ _ st => let ⟨o, ho, _⟩ := st.1; ⟨o, ho⟩
  frame := fun _ _ _ st hk => ⟨let ⟨o, ho, r⟩ := st.1; ⟨o, hk it (by simp) o ho, r⟩, let ⟨o, ho, r⟩ := st.2; ⟨o, hk t (by simp) o ho, r⟩⟩
  item := fun i s Q E hi st hQ => nextT st.1 st.2 (x := its[i]) (by simp [hi]) fun h' a b => hQ _ h' s.toks (by simp [hi]) ⟨a, st.2.extBut b.extBut hne⟩ b
  done := fun s Q E st hE => endT hh st.1 st.2 (by simp) hE
theorem meetsT (t : Addr) (its : Array Value) (n : Nat) (dct : Option Addr) (sl : Array (Option Value)) :
    Meets (Builtin.«enumerate.__new__» ⟨[.type "enumerate", .ref t], []⟩) (fun _ R s => s.heap.get? t = some { cls := .type "tuple", dict := dct, data := .seq its n, slots := sl } ∧
      R (.ok (.ret (.ref (s.heap.push { cls := .type "tuple_iterator", data := .fields #[.ref t, .int 0 0] }).objs.size)))
        { s with heap := (s.heap.push { cls := .type "tuple_iterator", data := .fields #[.ref t, .int 0 0] }).push { cls := .type "enumerate", data := .fields #[.none, .bool false, .ref s.heap.objs.size, rawInt 0, .none, .none] } }) :=
  .of_wp fun prog w A R s h => by
    obtain ⟨hp, g, d, tk, os⟩ := s
    obtain ⟨ht, h⟩ := h
    have hs := sub_enumerate
    have hT : Heap.IsTuple (Shared.heap ⟨hp, g, d, tk, os⟩) t its := ⟨_, ht, rfl, n, rfl⟩
    wp_walk using AutoSeq1.wpAny_loadPart' ht
    refine wpAny_stack_any fun st => wpAny_pure ?_
    split
    · rename_i c _ _ _ _ _
      cases (c == Value.type "enumerate") <;> (wp_walk using AutoSeq1.wpAny_loadPart' ht, wpAny_pyIter_tuple hT; exact ⟨_, rfl, h⟩)
    · wp_walk using AutoSeq1.wpAny_loadPart' ht, wpAny_pyIter_tuple hT
      exact ⟨_, rfl, h⟩
section
variable {prog : Program} {w : World} {A : Around} {E : Value → Shared → Prop} {s : Shared}
theorem callT {t : Addr} {its : Array Value} {Q : Value → Shared → Prop} (hT : s.heap.IsTuple t its)
    (q : ∀ h', IsEnum h' (s.heap.objs.size + 1) s.heap.objs.size 0 .none → h'.IsTupleIter s.heap.objs.size t 0 → (∀ b o, s.heap.get? b = some o → h'.get? b = some o) → Q (.ref (s.heap.objs.size + 1)) { s with heap := h' }) :
    wpAny (model prog w) A (call (.type "enumerate") [.ref t]) Q E s := by
  obtain ⟨⟨c, dct, dt, sl⟩, hl, hc, n, hd⟩ := hT
  obtain rfl : c = .type "tuple" := hc
  obtain rfl : dt = .seq its n := hd
  refine callType_new F.called_enumerate (by decide) (F.typeCall_enumerate_1 _) (F.newCall_enumerate_1 _) (fun obj => F.args_object_init_2 obj _) F.entry_enumerate_new (meetsT t its n dct sl) ⟨hl, ?_⟩
  have hz : (s.heap.push { cls := .type "tuple_iterator", data := .fields #[.ref t, .int 0 0] }).objs.size = s.heap.objs.size + 1 := Heap.size_push ..
  show _ ∧ _
  rw [hz]
  have he : IsEnum ((s.heap.push { cls := .type "tuple_iterator", data := .fields #[.ref t, .int 0 0] }).push { cls := .type "enumerate", data := .fields #[.none, .bool false, .ref s.heap.objs.size, rawInt 0, .none, .none] }) (s.heap.objs.size + 1) s.heap.objs.size 0 .none := by
    have z := Heap.get?_push_size (s.heap.push { cls := .type "tuple_iterator", data := .fields #[.ref t, .int 0 0] }) (o := { cls := .type "enumerate", data := .fields #[.none, .bool false, .ref s.heap.objs.size, rawInt 0, .none, .none] }) rfl
    rw [hz] at z; exact z
  exact ⟨⟨_, he, rfl⟩, q _ he ⟨_, Heap.get?_push_of_some _ (Heap.get?_push_size _ rfl), rfl, rfl⟩ fun b o x => Heap.get?_push_of_some _ (Heap.get?_push_of_some _ x)⟩
end
end EnuT
set_option linter.all false
set_option maxRecDepth 100000
namespace EnuT
open PySem
theorem extT (l : Addr) (xs : Array Value) (n : Nat) (b : Addr) (ys : Array Value) (n2 : Nat) (dct : Option Addr) (sl : Array (Option Value)) (h0 : ¬(!xs.isEmpty && Builtin.List.listTooLong (xs.size + ys.size)) = true) (h1 : xs.size ≤ sizeLine) (h2 : xs.size + ys.size ≤ sizeLine + 1) :
    Meets (Builtin.«list.extend» ⟨[.ref l, .ref b], []⟩) (fun _ R s => s.heap.get? l = some { cls := .type "list", dict := none, data := .seq xs n, slots := #[] } ∧ s.heap.get? b = some { cls := .type "tuple", dict := dct, data := .seq ys n2, slots := sl } ∧
      R (.ok (.ret Value.none)) { s with heap := s.heap.update l (Obj.mapSeq fun x => x ++ ys), toks := s.toks }) :=
  .of_wp fun prog w A R s h => by
    obtain ⟨hp, g, d, tk, os⟩ := s
    obtain ⟨hl, hb, h⟩ := h
    have f1 := AutoSeq1.idx_int; have f2 := AutoSeq1.sub_tuple_tuple; have f3 := AutoSeq1.sub_list_list; have f4 := AutoSeq1.sub_tuple_list; have f5 := AutoSeq1.sub_list_tuple
    have hz : (xs ++ ys).size ≤ sizeLine + 1 := by rw [Array.size_append]; exact h2
    wp_walk using (wpAny_updateSeq hl rfl (hz := h1) (_hz' := hz)), AutoSeq1.wpAny_loadPart' hl, AutoSeq1.wpAny_loadPart' hb; exact ⟨_, rfl, h⟩
end EnuT
set_option Elab.async false
set_option linter.all false
set_option maxRecDepth 100000
namespace L2
open PySem PySem.Spec PyProof.Rows
def Itn (K : PySem.W.Frag) (a : Addr) (xs : List V) : It :=
  ⟨fun i H => i < xs.length ∧ SqT K H a xs,
   fun i H v H' => ∃ p x, v = .ref p ∧ H p = none ∧ H' = upd H p (.tup [.int i, x]) ∧ xs[i]? = some x,
   fun i H => xs.length ≤ i ∧ SqT K H a xs⟩
theorem turn_enum {P : Program} {w : World} {K : PySem.W.Frag} {es : List Expr} {k : Nat} {pos : Pos} (e it a : Addr) (xs : List V) (hei : e ≠ it) (hae : a ≠ e) (hai : a ≠ it) :
    Turn P w K (.Tuple es k pos) (Itn K a xs) [e, it] e (fun i h => i ≤ xs.length ∧ (∃ old, IsEnum h e it ((i : Nat) : Int) old) ∧ h.IsTupleIter it a i) where
  mem := by simp
  obj := fun i h st b hb => by
    obtain ⟨_, ⟨old, he⟩, ⟨o, eo, _, d⟩⟩ := st
    simp only [List.mem_cons, List.not_mem_nil, or_false] at hb
    rcases hb with rfl | rfl
    · exact ⟨_, he, fun v q => nomatch q⟩
    · exact ⟨_, eo, fun v q => by rw [d] at q; cases q⟩
  keep := fun i h h' st hk => by
    obtain ⟨hi, ⟨old, he⟩, ht⟩ := st
    exact ⟨hi, ⟨old, hk e (by simp) _ he⟩, ht.at fun o eo => hk it (by simp) o eo⟩
  item := by
    intro X hP hw hK hc i pins s σ H E I hf st hg
    subst hP hw hK
    obtain ⟨hlt, hq⟩ := hg
    obtain ⟨hi, ⟨old, he⟩, ht⟩ := st
    obtain ⟨its, rv, p, _⟩ := I.tuple hq
    have hx : xs[i]? = some xs[i] := List.getElem?_eq_getElem hlt
    obtain ⟨u, hu, ru⟩ := rv.get hx
    have hsz : its.toArray.size = xs.length := by rw [List.size_toArray]; exact rv.length.symm
    refine wpAny_pyNext_enum_itemD (EnuT.drawsT (A := X.A.in1) (I.ok.hd hc) it a hai its.toArray) he ⟨ht, p⟩ (by omega) hei (by simp only [List.mem_cons, List.not_mem_nil, or_false, not_or]; exact ⟨hei, fun q => hae q.symm⟩) fun y h' tk py ho st' ht' hz' hk => ?_
    have ey : y = u := by
      have z : its.toArray[i]? = some u := by simpa using hu
      exact Option.some.inj (py.symm.trans z)
    subst ey
    refine ⟨_, rfl, wpAny_letOwnedTupleGo_enum (s := { s with heap := h', toks := tk + 1 }) ho fun h'' he'' hs'' => ?_⟩
    have lt : ∀ {c o}, s.heap.get? c = some o → s.heap.objs.size ≠ c := fun q => Nat.ne_of_gt (Heap.lt_size q)
    have ne : s.heap.objs.size ≠ e := lt he
    have kk : ∀ c o, c ∉ [e, it] → s.heap.get? c = some o → h''.get? c = some o := fun c o m q => by
      simp only [List.mem_cons, List.not_mem_nil, or_false, not_or] at m
      exact hs''.extBut _ _ m.1 (hk c o m.1 m.2 q)
    have J : Inv X pins σ (upd H s.heap.objs.size (.tup [.int i, xs[i]])) { s with heap := h'', toks := tk + 1 } := I.turnLay kk hf (Nat.le_refl _) ⟨by show 2 ≤ sizeLine; decide, [.int i tk, y], .cons ⟨tk, rfl⟩ (.cons ru .nil), ⟨_, hs''.extBut _ _ ne ht', rfl, _, rfl⟩⟩
    refine ⟨.ref s.heap.objs.size, _, J, rfl, ⟨_, _, rfl, I.hok.fresh (Nat.le_refl _), rfl, hx⟩, ⟨by omega, ⟨_, by have := he''; simpa using this⟩, st'.1.extBut hs''.extBut (fun q => hei q.symm)⟩, fun c hc => ?_⟩
    have nc : c ≠ s.heap.objs.size := fun q => by
      subst q
      simp only [List.mem_cons, List.not_mem_nil, or_false] at hc
      rcases hc with q | q
      · exact lt he q
      · obtain ⟨_, eo, _⟩ := ht; exact lt eo q
    rw [upd_ne nc]
    exact (hf c hc).1
  done := by
    intro X hP hw hK hc i pins s σ H E I hf st hg
    subst hP hw hK
    obtain ⟨hge, hq⟩ := hg
    obtain ⟨hi, ⟨old, he⟩, ht⟩ := st
    obtain ⟨its, rv, p, _⟩ := I.tuple hq
    have hsz : its.toArray.size = xs.length := by rw [List.size_toArray]; exact rv.length.symm
    have ei : i = its.toArray.size := by omega
    rw [ei] at ht
    refine wpAny_pyNext_enum_endD (EnuT.drawsT (A := X.A.in1) (I.ok.hd hc) it a hai its.toArray) he ⟨ht, p⟩ fun h' eb => ⟨rfl, I.turnL (t' := s.toks) (fp := [e, it]) (fun c u m q => ?_) hf⟩
    simp only [List.mem_cons, List.not_mem_nil, or_false, not_or] at m
    exact eb c u m.2 q
  self := fun A i s Q E st h => by
    obtain ⟨_, ⟨old, he⟩, _⟩ := st
    exact wpAny_pyIter_enum he h
def iEnum (K : PySem.W.Frag) (t : TA) : TI := fun σ H R => t σ H fun vs H1 => ∃ p xs, vs = [.ref p] ∧ SqT K H1 p xs ∧ R (Itn K p xs) H1
section
variable {X : Cx} {es : List Expr} {k : Nat} {p2 pos pos2 : Pos} {a : Expr} {t : TA}
theorem pi_enum (hgz : Gl X "enumerate") (hmz : X.mg "enumerate" = none) (ha : PA X [a] t)
    (he2 : starEach [a] X.env = (false, eval a X.env) :: starEach [] X.env := by rfl) (hpl : (backTo pos2 (starEach [] X.env)).any (·.1) = false := by rfl) :
    PI X (.Tuple es k pos) (.Call (.Name "enumerate" p2) [a] [] pos2) (iEnum X.K t) := by
  intro pins s σ H R I h
  refine wpAny_Call_Name_kw (ld_blt I hgz hmz (by decide +kernel : bootBuiltins "enumerate" = some (.type "enumerate")) ?_ (by decide) (by decide))
  refine PyProof.Rows.callWith_type1 (thn (ha pos2 pins s σ H _ I h) fun us s1 ⟨vs, H1, I1, r1, q1⟩ => ?_) he2 hpl
  obtain ⟨l, xs, rfl, hx, q⟩ := q1
  obtain ⟨u1, rfl, e1⟩ := vals1 r1
  cases e1
  obtain ⟨its, rv, pl, z⟩ := I1.tuple hx
  have nl : l < s1.heap.objs.size := by obtain ⟨_, e, _⟩ := id pl; exact Heap.lt_size e
  refine EnuT.callT (show s1.heap.IsTuple l its.toArray from pl) fun h2 b1 b2 k2 => ?_
  refine wpAny_pyIter_enum (s := { s1 with heap := h2 }) b1 ?_
  have J : Inv X pins σ H1 { s1 with heap := h2, toks := s1.toks } := I1.kept k2
  refine ⟨_, [s1.heap.objs.size + 1, s1.heap.objs.size], _, _, H1, rfl, J, turn_enum _ _ l xs (Nat.succ_ne_self _) (Nat.ne_of_lt (Nat.lt_succ_of_lt nl)) (Nat.ne_of_lt nl), ⟨Nat.zero_le _, ⟨_, b1⟩, b2⟩, fun c hc => ?_, q⟩
  have ge : s1.heap.objs.size ≤ c := by
    simp only [List.mem_cons, List.not_mem_nil, or_false] at hc
    rcases hc with q | q <;> rw [q] <;> first | exact Nat.le_refl _ | exact Nat.le_add_right _ _
  exact I1.fpOk ge (I1.hok.fresh ge)
end
theorem for_enum {K : PySem.W.Frag} {a : Addr} {xs : List V} {g : TG} {tb : TS} {D : Ends} {σ : St} {H : Hp} (Pv : Nat → St → Hp → Prop) (h0 : Pv 0 σ H) (hl : ∀ i σ H, i ≤ xs.length → Pv i σ H → SqT K H a xs)
    (hs : ∀ i x p σ H, xs[i]? = some x → Pv i σ H → H p = none → g (.ref p) σ (upd H p (.tup [.int i, x])) fun σ2 H2 => tb { D with nx := Pv (i + 1), ct := Pv (i + 1), bk := D.nx } σ2 H2) (hd : ∀ σ H, Pv xs.length σ H → D.nx σ H) :
    ∃ W : Nat → Nat → St → Hp → Prop, (∃ m, W 0 m σ H) ∧ ∀ i m σ H, W i m σ H →
      ((Itn K a xs).stop i H ∧ D.nx σ H) ∨ ((Itn K a xs).go i H ∧ ∃ N : St → Hp → Prop, (∀ σ' H', N σ' H' → ∃ m', m' < m ∧ W (i + 1) m' σ' H') ∧ ∀ x H', (Itn K a xs).yld i H x H' → g x σ H' fun σ2 H2 => tb { D with nx := N, ct := N, bk := D.nx } σ2 H2) := by
  refine ⟨fun i m σ H => m = xs.length - i ∧ i ≤ xs.length ∧ Pv i σ H, ⟨xs.length, by simp, Nat.zero_le _, h0⟩, ?_⟩
  rintro i m σ H ⟨rfl, hi, p⟩
  have q := hl i σ H hi p
  by_cases hlt : i < xs.length
  · refine .inr ⟨⟨hlt, q⟩, Pv (i + 1), fun σ' H' p' => ⟨xs.length - (i + 1), by omega, rfl, hlt, p'⟩, fun x H' y => ?_⟩
    obtain ⟨r, z, rfl, hr, rfl, hz⟩ := y
    exact hs i z r σ H hz p hr
  · have e : i = xs.length := by omega
    subst e
    exact .inl ⟨⟨Nat.le_refl _, q⟩, hd σ H p⟩
section
variable {X : Cx}
def rExtT (K : PySem.W.Frag) : V → List V → Hp → VK → Prop := fun x vs H Q => ∃ l b xs zs, x = .ref l ∧ vs = [.ref b] ∧ H l = some (.lst xs) ∧ SqT K H b zs ∧ xs.length + zs.length ≤ sizeLine ∧ Q .non (upd H l (.lst (xs ++ zs)))
theorem mt_extT : MtM X "list.extend" (rExtT X.K) := by
  intro pins s σ H x vs v us Q I rx rv h
  obtain ⟨l, b, xs, zs, rfl, rfl, hH, hB, hz, q⟩ := h
  cases rx
  obtain ⟨u, rfl, ru⟩ := rv.one
  cases ru
  obtain ⟨z, its, n, r, hl, e⟩ := I.lstM hH
  obtain ⟨its2, r2, ⟨⟨c2, d2, t2, s2⟩, e2, hc2, n2, hd2⟩, z2⟩ := I.tuple hB
  obtain rfl : c2 = .type "tuple" := hc2
  obtain rfl : t2 = .seq its2.toArray n2 := hd2
  have hl2 := r2.length
  have hsz : its.toArray.size + its2.toArray.size ≤ sizeLine := by rw [List.size_toArray, List.size_toArray]; omega
  have hlong : ¬ (!its.toArray.isEmpty && Builtin.List.listTooLong (its.toArray.size + its2.toArray.size)) = true := by rw [notLongL hsz, Bool.and_false]; exact Bool.false_ne_true
  refine call_meets F.slot_list_extend ⟨_, e, rfl⟩ F.entry_list_extend (F.args_list_extend_2 _ _) (EnuT.extT l its.toArray n b its2.toArray n2 d2 s2 hlong (by rw [List.size_toArray]; omega) (by omega)) ⟨e, e2, ?_⟩
  refine ⟨.non, _, I.lset (its' := its ++ its2) hH e (by simp) (r.append r2) ?_, rfl, q⟩
  rw [List.length_append]
  omega
end
def rngI (i : Int) (n : Nat) : List Int := (List.range n).map fun k : Nat => i + (k : Int)
def tListRng (t : TA) : TE := fun σ H Q => t σ H fun vs H1 => ∃ i j : Int, vs = [.int i, .int j] ∧ (-(2 ^ 62) ≤ i ∧ i < 2 ^ 62 ∧ -(2 ^ 62) ≤ j ∧ j < 2 ^ 62) ∧ j - i ≤ 1000000 ∧ ∀ q, H1 q = none → Q (.ref q) (upd H1 q (.lst ((rngI i (j - i).toNat).map V.int)))
section
variable {X : Cx} {p p2 pos pos2 : Pos} {a b : Expr} {t : TA}
end
end L2
namespace EX
open PySem
structure Noted (l : List Env) (e T : Addr) (oe : Obj) (h h' : Heap) : Prop where
  keep : ∀ b o, b ≠ e → b ∉ l.filterMap (·.frame) → h.get? b = some o → h'.get? b = some o
  slot : ∀ b o, b ≠ e → h.get? b = some o → ∃ sl, h'.get? b = some { o with slots := sl }
  exc : h'.get? e = some (oe.mapFields (·.setIfInBounds 1 (.ref T)))
  new : h.objs.size ≤ T
  tb : ∃ oT ts, h'.get? T = some oT ∧ oT.data = .fields ts ∧ 3 < ts.size
section
variable {M : Model} {A : Around} {E : Value → Shared → Prop} {s : Shared} {env : Env} {outer : List Env} {base : Heap} {L e T : Addr} {oe : Obj} {vs : Array Value} {Q : Unit → Shared → Prop}
theorem frames_ne (hl : s.heap.FunFrames base (env :: outer)) (he : s.heap.get? e = some oe) (hd : oe.data = .fields vs) : e ∉ (env :: outer).filterMap (·.frame) := fun hm => by
  obtain ⟨_, o, ho, hn⟩ := hl.mem hm
  rw [he] at ho
  cases ho
  exact hn vs hd
theorem note_new (hfr : A.frames = some (env :: outer)) (hl : s.heap.FunFrames base (env :: outer)) (hf : env.frame = some L)
    (he : s.heap.get? e = some oe) (hd : oe.data = .fields vs) (h1 : vs[1]? = some .none)
    (h : ∀ h' T, Noted (env :: outer) e T oe s.heap h' → Q () { s with heap := h' }) : wpAny M A (noteFrame (.ref e) env) Q E s := by
  have hz : 1 < vs.size := (Array.getElem?_eq_some_iff.mp h1).1
  have hne := frames_ne hl he hd
  unfold noteFrame
  simp only [hf]
  refine wpAny_bind (wpAny_field he hd h1 ?_)
  rw [if_neg (by decide)]
  refine wpAny_bind (wpAny_frameOf_fun hfr hl hf fun h₁ sl => wpAny_bind (wpAny_entryPlaceOf fun pl hpl => ?_))
  unfold EntryCells.newEntry newFields
  refine wpAny_bind (wpAny_newObj_type ?_ (hpl.sizeOk5 _ _ _ _ _))
  have e1 : h₁.get? e = some oe := (sl.2.1 e hne).trans he
  have z1 : h₁.objs.size = s.heap.objs.size := sl.1
  refine wpAny_setField (Heap.get?_push_of_some _ e1) hd hz (h _ h₁.objs.size ⟨fun b o hb hn q => ?_, fun b o hb q => ?_, ?_, Nat.le_of_eq z1.symm, ?_⟩)
  · exact (Heap.get?_update_other _ _ (Ne.symm hb)).trans (Heap.get?_push_of_some _ ((sl.2.1 b hn).trans q))
  · obtain ⟨x, q'⟩ := sl.2.2 b o q
    exact ⟨x, (Heap.get?_update_other _ _ (Ne.symm hb)).trans (Heap.get?_push_of_some _ q')⟩
  · exact Heap.get?_update_self _ (Heap.get?_push_of_some _ e1) (Obj.isFreed_of_fields (Obj.data_mapFields hd _))
  · refine ⟨_, _, (Heap.get?_update_other _ _ (Nat.ne_of_lt (Heap.lt_size e1))).trans (Heap.get?_push_size h₁ rfl), rfl, ?_⟩
    simp only [List.size_toArray, List.length_append, List.length_cons, List.length_nil]
    omega
theorem flight_off {oT : Obj} {ts : Array Value} (he : s.heap.get? e = some oe) (hd : oe.data = .fields vs) (h1 : vs[1]? = some (.ref T)) (hT : s.heap.get? T = some oT) (hdT : oT.data = .fields ts) (hz : 3 < ts.size)
    (h : ∀ h', (∀ b, b ≠ T → h'.get? b = s.heap.get? b) → (∃ oT ts, h'.get? T = some oT ∧ oT.data = .fields ts ∧ 3 < ts.size) → Q () { s with heap := h' }) : wpAny M A (setFlight (.ref e) none) Q E s := by
  refine wpAny_setFlight_none he hd h1 hT hdT hz (h _ (fun b hb => Heap.get?_update_other _ _ (Ne.symm hb)) ⟨_, _, Heap.get?_update_self _ hT (Obj.isFreed_of_fields (Obj.data_mapFields hdT _)), Obj.data_mapFields hdT _, ?_⟩)
  rw [Array.size_setIfInBounds]; exact hz
end
end EX
namespace EX
open PySem
abbrev Lk {α : Type} (M : Model) (h : Heap) (t : Sem α) (r : α) : Prop :=
  ∀ (A : Around) (Q : α → Shared → Prop) (E : Value → Shared → Prop) (s : Shared), (∀ b o, h.get? b = some o → s.heap.get? b = some o) → Q r s → wpAny M A t Q E s
section
variable {M : Model} {A : Around} {E : Value → Shared → Prop} {s : Shared} {env : Env}
theorem not_cls {h : Heap} {e : Addr} {oe : Obj} {vs : Array Value} (he : h.get? e = some oe) (hd : oe.data = .fields vs) : Lk M h (isType (.ref e)) false := by
  intro A Q E s k q
  show wpAny M A (do return match (← loadHead e).data with | .cls _ => true | _ => false) Q E s
  refine wpAny_bind (wpAny_loadPart (k _ _ he) ?_)
  rw [hd]; exact wpAny_pure q
theorem type_at {h : Heap} {e : Addr} {oe : Obj} {c : Value} (he : h.get? e = some oe) (hc : oe.cls = c) : Lk M h (typeOf (.ref e)) c := by
  intro A Q E s k q
  show wpAny M A (do return (← loadPart e (some headPart)).cls) Q E s
  refine wpAny_bind (wpAny_loadPart (k _ _ he) ?_)
  rw [hc]; exact wpAny_pure q
theorem raise_at {x : Sem Value} {Q : Flow → Shared → Prop} (hh : A.handled = none)
    (h : wpAny M A x (fun v s₁ => ∃ e C oe vs, v = .ref e ∧ s₁.heap.get? e = some oe ∧ oe.cls = .ref C ∧ oe.data = .fields vs ∧ vs[1]? = some .none ∧
      Lk M s₁.heap (isSubtype (.ref C) (.type "BaseException")) true ∧ Lk M s₁.heap (typeOf (.ref C)) (.type "type") ∧ E (.ref e) s₁) E s) :
    wpAny M A (raiseStmt env (some x) none) Q E s := by
  unfold raiseStmt
  refine wpAny_bind (wpAny_mono h (fun v s₁ h₁ => ?_) fun _ _ y => y)
  obtain ⟨e, C, oe, vs, rfl, he, hc, hd, h1, hs, ht, hE⟩ := h₁
  have n1 := not_cls (M := M) he hd
  have n2 := type_at (M := M) he hc
  refine wpAny_bind (wpAny_pure (wpAny_bind (wpAny_holding ?_)))
  unfold excFromValue isExcClass isInstance
  refine wpAny_bind (wpAny_bind (n1 _ _ _ _ (fun _ _ z => z) ?_))
  rw [if_neg Bool.false_ne_true]
  refine wpAny_pure ?_
  rw [if_neg Bool.false_ne_true]
  refine wpAny_bind (wpAny_bind (n2 _ _ _ _ (fun _ _ z => z) (hs _ _ _ _ (fun _ _ z => z) ?_)))
  rw [if_pos rfl]
  refine wpAny_pure ?_
  refine wpAny_bind (n1 _ _ _ _ (fun _ _ z => z) ?_)
  rw [if_neg Bool.false_ne_true]
  unfold raisedInstance
  refine wpAny_bind (wpAny_bind (n2 _ _ _ _ (fun _ _ z => z) (wpAny_bind (ht _ _ _ _ (fun _ _ z => z) ?_))))
  rw [if_pos (by decide)]
  refine wpAny_pure (wpAny_bind ?_)
  unfold setFlight
  refine wpAny_bind (wpAny_field he hd h1 ?_)
  rw [if_neg (by decide)]
  exact wpAny_pure (wpAny_raiseNew_none hh hE)
end
end EX
namespace EX
open PySem
section
variable {M : Model} {A : Around} {E : Value → Shared → Prop} {s : Shared} {env : Env}
theorem is_cls {h : Heap} {c : Addr} {oc : Obj} {cd : ClassData} (he : h.get? c = some oc) (hd : oc.data = .cls cd) : Lk M h (isType (.ref c)) true := by
  intro A Q E s k q
  show wpAny M A (do return match (← loadHead c).data with | .cls _ => true | _ => false) Q E s
  refine wpAny_bind (wpAny_loadPart (k _ _ he) ?_)
  rw [hd]; exact wpAny_pure q
theorem matches_at {e C D : Addr} {b : Bool} {Q : Bool → Shared → Prop} (h1 : Lk M s.heap (typeOf (.ref D)) (.type "type")) (h2 : Lk M s.heap (isType (.ref D)) true) (h3 : Lk M s.heap (isSubtype (.ref D) (.type "BaseException")) true)
    (h4 : Lk M s.heap (typeOf (.ref e)) (.ref C)) (h5 : Lk M s.heap (isSubtype (.ref C) (.ref D)) b) (h : Q b s) : wpAny M A (excMatches (.ref e) (.ref D)) Q E s := by
  have nt : isSubtype (.type "type") (.type "tuple") = pure false := by rw [isSubtype_type]; kernel_rfl
  unfold excMatches isInstance
  refine wpAny_bind (wpAny_bind (h1 _ _ _ _ (fun _ _ z => z) ?_))
  rw [nt]
  refine wpAny_pure ?_
  rw [if_neg Bool.false_ne_true]
  refine wpAny_bind (wpAny_pure ?_)
  simp only [List.forIn_cons, List.forIn_nil]
  unfold isExcClass
  refine wpAny_bind (wpAny_bind (wpAny_bind (wpAny_bind (h2 _ _ _ _ (fun _ _ z => z) ?_))))
  rw [if_pos rfl]
  refine h3 _ _ _ _ (fun _ _ z => z) ?_
  simp only [Bool.not_true, Bool.false_eq_true, if_false]
  refine wpAny_pure (wpAny_pure (wpAny_bind (h4 _ _ _ _ (fun _ _ z => z) ?_)))
  refine wpAny_bind (wpAny_bind (wpAny_bind (h5 _ _ _ _ (fun _ _ z => z) ?_)))
  cases b with
  | true =>
    simp only [if_true]
    exact wpAny_pure (wpAny_pure (wpAny_pure h))
  | false =>
    simp only [Bool.false_eq_true, if_false]
    exact wpAny_pure (wpAny_pure (wpAny_pure h))
end
section
variable {prog : Program} {w : World} {A : Around} {E : Value → Shared → Prop} {s : Shared} {env : Env}
theorem handle_at {e C D : Addr} {t : Expr} {n : Str} {b₀ : Stmt} {suite : List Stmt} {pos : Pos} {rest : List ExceptHandler} {Q : Flow → Shared → Prop}
    (h : wpAny (model prog w) (A.mark (some (.ref e))) (eval t env) (fun c s₁ => c = .ref D ∧ Lk (model prog w) s₁.heap (typeOf (.ref D)) (.type "type") ∧ Lk (model prog w) s₁.heap (isType (.ref D)) true ∧
      Lk (model prog w) s₁.heap (isSubtype (.ref D) (.type "BaseException")) true ∧ Lk (model prog w) s₁.heap (typeOf (.ref e)) (.ref C) ∧ Lk (model prog w) s₁.heap (isSubtype (.ref C) (.ref D)) true ∧
      wpAny (model prog w) (A.mark (some (.ref e))) (setFlight (.ref e) none) (fun _ s₂ =>
          wpAny (model prog w) (A.mark (some (.ref e))) (storeName env n (.ref e)) (fun _ s₃ =>
            wpAny (model prog w) (A.mark (some (.ref e))) (execs (b₀ :: suite) env)
              (fun f s₄ => wpAny (model prog w) A (do bindName env n .none; unbindBehindTheSuite env n pos) (fun _ s₅ => Q f s₅) E s₄)
              (fun _ _ => False) s₃) (fun _ _ => False) s₂) (fun _ _ => False) s₁) (fun _ _ => False) s) :
    wpAny (model prog w) A (handleBy (.ref e) env (.ExceptHandler (some t) (some n) (b₀ :: suite) pos :: rest)) Q E s := by
  refine wpAny_handleBy_cons (codeAny_handlers_test (wpAny_mono h (fun c s₁ h₁ => ?_) fun _ _ x => x.elim)) (by intro q; cases q)
  obtain ⟨rfl, x1, x2, x3, x4, x5, hk⟩ := h₁
  refine matches_at x1 x2 x3 x4 x5 ?_
  refine codeAny_handlers_suite_as (wpAny_mono hk (fun _ s₂ h₂ => wpAny_mono h₂ (fun _ s₃ h₃ => wpAny_mono h₃ (fun f s₄ h₄ => h₄) fun _ _ z => z.elim) fun _ _ z => z.elim) fun _ _ z => z.elim)
end
end EX
set_option maxRecDepth 100000
namespace EX
open PySem
section
variable {prog : Program} {w : World} {A : Around} {E : Value → Shared → Prop} {h : Heap} {g : Array GenState} {d : Drawn} {t : Nat} {os : OsState}
variable {nm q : Str} {C N : Addr} {bs bm bmB : List Value} {hdct : Bool} {sn : List Str} {sub : List Value} {ab : Bool} {col : Option Bool} {dd : Option Addr} {k0 k1 k2 k3 k5 : Option Value} {B newId initId : String}
abbrev tupO (rest : List Value) : Obj := { cls := .type "tuple", data := .seq rest.toArray }
abbrev excO (C t : Addr) : Obj := { cls := .ref C, data := .fields #[.ref t, .none, .none, .none, .bool false, .none] }
abbrev made (h : Heap) (C : Addr) (rest : List Value) : Heap := (h.push (tupO rest)).push (excO C h.objs.size)
theorem made_keep {rest : List Value} : ∀ b o, h.get? b = some o → (made h C rest).get? b = some o := fun _ _ e => Heap.get?_push_of_some _ (Heap.get?_push_of_some _ e)
theorem made_at {rest : List Value} : (made h C rest).get? (h.objs.size + 1) = some (excO C h.objs.size) := by
  have := Heap.get?_push_size (h.push (tupO rest)) (o := excO C h.objs.size) rfl
  rwa [Heap.size_push] at this
theorem exc_new (F : ExcBaseFacts B newId initId bmB) (T : OwnTail h bmB bm) {rest : List Value} {fI : Addr} {Q : Fin → Shared → Prop}
    (hC : h.get? C = some (excClassObj nm q C N bs bm hdct sn sub ab col dd k0 k1 k2 k3 k5 newId)) (hI : Lk (model prog w) h (typeLookup (.ref C) "__init__") (some (.ref fI)))
    (hf : Lk (model prog w) h (typeOf (.ref fI)) (.type "function")) (hrest : rest.length ≤ sizeLine)
    (hq : wpAny (model prog w) A (call (.ref fI) (.ref (h.objs.size + 1) :: rest)) (fun r s' => r = .none ∧ Q (.done (.ret (.ref (h.objs.size + 1)))) s') E ⟨made h C rest, g, d, t, os⟩) :
    wpAny (model prog w) A (Builtin.«type.__call__» ⟨.ref C :: rest, []⟩) Q E ⟨h, g, d, t, os⟩ := by
  have c1 := made_keep (C := C) (rest := rest) _ _ hC
  have cC : (Value.ref C :: bm).contains (.ref C) = true := by simp
  repeat (first | with_reducible refine wpAny_madeBy_exc hC ?_ | with_reducible refine wpAny_loadPart_at hC ?_ | wp_step)
  refine codeAny_call_builtin_code (Code.quiet_builtin _ F.quiet) (wpAny_check_new_subT F T hC (codeAny_exc_new_subT F T hC ?_ hrest))
  show wpAny _ _ _ _ _ _
  unfold isInstance
  have e1 := made_at (h := h) (C := C) (rest := rest)
  repeat (first | (with_reducible refine wpAny_isSubtype_exc c1 ?_; rw [cC]) | with_reducible refine wpAny_loadPart_at e1 ?_ | wp_step)
  show wpAny _ _ (typeLookup (.ref C) _) _ _ _
  refine hI _ _ _ _ made_keep (wpAny_holding (wpAny_bind ?_))
  unfold bindSpecial
  refine wpAny_bind (hf _ _ _ _ made_keep ?_)
  rw [if_pos (by decide)]
  refine wpAny_pure (wpAny_bind (wpAny_mono hq (fun r s' ⟨hr, hQ⟩ => ?_) fun _ _ y => y))
  subst hr
  wp_walk
  exact hQ
end
end EX
set_option maxRecDepth 100000
namespace EX
open PySem
section
variable {prog : Program} {w : World} {A : Around} {E : Value → Shared → Prop} {h : Heap} {g : Array GenState} {d : Drawn} {t : Nat} {os : OsState}
variable {nm q : Str} {C N : Addr} {bs bm bmB : List Value} {hdct : Bool} {sn : List Str} {sub : List Value} {ab : Bool} {col : Option Bool} {dd : Option Addr} {k0 k1 k2 k3 k5 : Option Value} {B newId initId : String}
theorem exc_call (F : ExcBaseFacts B newId initId bmB) (T : OwnTail h bmB bm) {rest : List Value} {fI : Addr} {Q : Value → Shared → Prop}
    (hC : h.get? C = some (excClassObj nm q C N bs bm hdct sn sub ab col dd k0 k1 k2 k3 k5 newId)) (hI : Lk (model prog w) h (typeLookup (.ref C) "__init__") (some (.ref fI)))
    (hf : Lk (model prog w) h (typeOf (.ref fI)) (.type "function")) (hrest : rest.length ≤ sizeLine)
    (hq : wpAny (model prog w) (A.under (.builtin "type.__call__" ⟨.ref C :: rest, []⟩)) (call (.ref fI) (.ref (h.objs.size + 1) :: rest)) (fun r s' => r = .none ∧ Q (.ref (h.objs.size + 1)) s') E ⟨made h C rest, g, d, t, os⟩) :
    wpAny (model prog w) A (call (.ref C) rest) Q E ⟨h, g, d, t, os⟩ := by
  have f2 := tc_bind (.ref C)
  have f1 := tc_lookup
  have ty : (⟨h, g, d, t, os⟩ : Shared).TypeIs (.ref C) "type" := ⟨_, hC, rfl⟩
  refine wpAny_call (codeAny_of_tree ?_)
  show wpAny _ _ (callAny (.ref C) _) _ _ _
  repeat (any_goals (first | with_reducible refine wpAny_loadPart_at hC ?_ | assumption | wp_step))
  refine ⟨rfl, codeAny_call_builtin_at (Code.quiet_builtin _ (by decide +kernel)) entry_typeCall (wpAny_check_type_call_sub hC (exc_new F T hC hI hf hrest hq))⟩
end
end EX
set_option maxRecDepth 100000
namespace EX
open PySem Builtin Builtin.ObjectAttr
structure SetOk (M : Model) (h : Heap) (x C : Addr) (name : Str) : Prop where
  sa : Lk M h (typeLookup (.ref C) "__setattr__") (some (.builtin "object.__setattr__"))
  no : Lk M h (typeLookup (.ref C) name) none
  rf : Lk M h (refuseIfOverridden (.ref x) "__setattr__") ()
  ob : Lk M h (isSubtype (.ref C) (.type "object")) true
  cd : ∃ cd, Lk M h (classData C) cd ∧ cd.hasDict = true
structure SaFacts : Prop where
  slot : Slot "object" "__setattr__" "object.__setattr__"
  entry : entryFor table "object.__setattr__" = some Builtin.«object.__setattr__»
  kind : builtinKind "object.__setattr__" = some .slot
  split : splitId "object.__setattr__" = some ("object", "__setattr__")
  args : ∀ a b c : Value, argsOk "object.__setattr__" ⟨[a, b, c], []⟩
section
variable {prog : Program} {w : World} {A : Around} {E : Value → Shared → Prop} {s : Shared} {x C : Addr} {o : Obj} {name : Str} {v : Value}
theorem slot_check {M : Model} {i owner n : String} {self : Value} {rest : List Value} {Q : Unit → Shared → Prop} (hk : builtinKind i = some .slot) (hs : splitId i = some (owner, n))
    (hi : Lk M s.heap (isInstance self (.type owner)) true) (ha : argsOk i ⟨self :: rest, []⟩) (z : Q () s) : wpAny M A (checkBuiltinCall i ⟨self :: rest, []⟩) Q E s := by
  simp only [checkBuiltinCall, hk, hs]
  refine wpAny_bind (hi _ _ _ _ (fun _ _ y => y) ?_)
  rw [if_neg (by decide)]
  cases g : Manifest.signature? i with
  | none => exact wpAny_pure z
  | some sig =>
    have e : Bind.checkArgs i sig ⟨self :: rest, []⟩ = pure () := by unfold argsOk at ha; rw [g] at ha; exact ha
    exact (show wpAny M A (Bind.checkArgs i sig ⟨self :: rest, []⟩) Q E s by rw [e]; exact wpAny_pure z)
theorem inst_lk {M : Model} {h : Heap} {b : Value} {r : Bool} (hx : h.get? x = some o) (hc : o.cls = .ref C) (hb : Lk M h (isSubtype (.ref C) b) r) : Lk M h (isInstance (.ref x) b) r := by
  intro A Q E s k q
  unfold isInstance
  exact wpAny_bind (type_at hx hc _ _ _ _ k (hb _ _ _ _ k q))
theorem osa_as (self v : Value) (name : Str) (tk : Tok) : Builtin.«object.__setattr__» ⟨[self, .str name tk, v], []⟩ = (refuseIfOverridden self "__setattr__" >>= fun _ => typeOf self >>= fun c => typeLookup c name >>= fun a =>
    storeTaker? a >>= fun y => match y with | some y => setByDescriptor y self v | none => storeInOwnDict self c (.str name tk) name v a.isSome) := by kernel_rfl
theorem set_upto (SF : SaFacts) {Q : Unit → Shared → Prop} (S : SetOk (model prog w) s.heap x C name) (hx : s.heap.get? x = some o) (hc : o.cls = .ref C)
    (h : ∀ (A : Around) (R : Fin → Shared → Prop) (E' : Value → Shared → Prop) (b : Bool) (tk : Tok), (∀ s', Q () s' → R (.done (.ret .none)) s') →
      wpAny (model prog w) A (storeInOwnDict (.ref x) (.ref C) (.str name tk) name v b) R E' { s with toks := s.toks + 1 }) :
    wpAny (model prog w) A (setAttr (.ref x) name v) Q E s := by
  have ty := type_at (M := model prog w) hx hc
  have same : ∀ b o, s.heap.get? b = some o → ({ s with toks := s.toks + 1 } : Shared).heap.get? b = some o := fun _ _ e => e
  unfold setAttr callSpecial? specialOf
  refine wpAny_bind (wpAny_mkText (wpAny_bind (wpAny_bind (wpAny_bind (ty _ _ _ _ same (S.sa _ _ _ _ same (wpAny_holding ?_)))))))
  rw [SF.slot.bind]
  refine wpAny_bind (wpAny_pure (wpAny_bind (wpAny_call ?_)))
  refine codeAny_call_builtin SF.slot.plain SF.entry ?_
  have ag := SF.args (.ref x) (.str name s.toks) v
  have ii := inst_lk (M := model prog w) hx hc S.ob
  refine @slot_check _ _ { s with toks := s.toks + 1 } (model prog w) "object.__setattr__" "object" "__setattr__" (.ref x) [.str name s.toks, v] _ SF.kind SF.split ii ag ?_
  rw [show ([Value.ref x] ++ [Value.str name s.toks, v]) = [.ref x, .str name s.toks, v] from rfl, osa_as]
  refine wpAny_bind (S.rf _ _ _ _ same (wpAny_bind (ty _ _ _ _ same (wpAny_bind (S.no _ _ _ _ same (wpAny_bind (wpAny_pure ?_)))))))
  exact h _ _ _ _ _ fun s' z => wpAny_pure (wpAny_pure z)
abbrev newD : Obj := { cls := .type "dict", data := .dict #[] }
theorem set_first (SF : SaFacts) {Q : Unit → Shared → Prop} {vs : Array Value} (S : SetOk (model prog w) s.heap x C name) (hx : s.heap.get? x = some o) (hc : o.cls = .ref C) (hd : o.dict = none) (hv : o.data = .fields vs)
    (h : ∀ h' tk, (∀ b u, b ≠ x → s.heap.get? b = some u → h'.get? b = some u) → h'.get? x = some { o with dict := some s.heap.objs.size } → h'.Ns1 s.heap.objs.size (fun y => if y = name then some v else none) →
      Q () { s with heap := h', toks := tk }) : wpAny (model prog w) A (setAttr (.ref x) name v) Q E s := by
  refine set_upto SF S hx hc fun A R E' b tk hR => ?_
  obtain ⟨cd, hcd, hh⟩ := S.cd
  have same : ∀ b o, s.heap.get? b = some o → ({ s with toks := s.toks + 1 } : Shared).heap.get? b = some o := fun _ _ e => e
  obtain ⟨oc, od, dt, sl⟩ := o
  obtain rfl : oc = .ref C := hc
  obtain rfl : od = none := hd
  obtain rfl : dt = .fields vs := hv
  have nx : s.heap.objs.size ≠ x := Nat.ne_of_gt (Heap.lt_size hx)
  unfold storeInOwnDict ownDictForStores instanceDict
  refine wpAny_bind (wpAny_pure (wpAny_bind (wpAny_bind (wpAny_loadPart (same _ _ hx) (wpAny_bind (hcd _ _ _ _ same ?_))))))
  rw [hh]
  refine wpAny_bind (wpAny_alloc (wpAny_bind (wpAny_update (Heap.get?_push_of_some _ hx) (wpAny_pure ?_))))
  have e1 := Heap.get?_push_of_some newD hx
  have e2 : ((s.heap.push newD).update x fun o => { o with dict := some s.heap.objs.size }).get? x = some ⟨.ref C, some s.heap.objs.size, .fields vs, sl⟩ := Heap.get?_update_self _ e1 rfl
  have e3 : ((s.heap.push newD).update x fun o => { o with dict := some s.heap.objs.size }).get? s.heap.objs.size = some newD := (Heap.get?_update_other _ _ (Ne.symm nx)).trans (Heap.get?_push_size _ rfl)
  have ns : ((s.heap.push newD).update x fun o => { o with dict := some s.heap.objs.size }).Ns s.heap.objs.size (fun _ => none) := ⟨newD, #[], _, e3, rfl, (fun e he => absurd he (by simp)), fun _ => rfl⟩
  show wpAny _ _ (storeInDict s.heap.objs.size (.str name tk) name v) _ _ _
  unfold storeInDict newKeyGuard
  refine wpAny_bind (wpAny_pure (wpAny_bind (wpAny_nsSet1 (Heap.Ns1.of_empty ns) fun h' hn' hs => ?_)))
  obtain ⟨oD, esD, epD, hoD, hdD, hcD⟩ := hn'.count (Within.cons name v Within.nil)
  refine wpAny_bind (wpAny_lookBehind hoD ?_ (wpAny_pure (hR _ (h h' _ (fun b u hb q => ?_) ((hs.2 x (Ne.symm nx)).trans e2) hn'))))
  · rw [hdD]; exact pastItsLine_dict (Nat.le_trans hcD (by rw [sizeLine_eq, List.length_cons, List.length_nil]; omega))
  · exact (hs.2 b (Nat.ne_of_lt (Heap.lt_size q))).trans ((Heap.get?_update_other _ _ (Ne.symm hb)).trans (Heap.get?_push_of_some _ q))
theorem set_next (SF : SaFacts) {Q : Unit → Shared → Prop} {dx : Addr} {mA : Str → Option Value} {ns : List Str} (S : SetOk (model prog w) s.heap x C name) (hx : s.heap.get? x = some o) (hc : o.cls = .ref C) (hd : o.dict = some dx)
    (hn : s.heap.Ns1 dx mA) (hw : Within mA ns) (hz : ns.length < 1000)
    (h : ∀ h' tk, Heap.SameBut dx s.heap h' → h'.Ns1 dx (fun y => if y = name then some v else mA y) → Q () { s with heap := h', toks := tk }) : wpAny (model prog w) A (setAttr (.ref x) name v) Q E s := by
  refine set_upto SF S hx hc fun A R E' b tk hR => ?_
  obtain ⟨cd, hcd, hh⟩ := S.cd
  have same : ∀ b o, s.heap.get? b = some o → ({ s with toks := s.toks + 1 } : Shared).heap.get? b = some o := fun _ _ e => e
  obtain ⟨oc, od, dt, sl⟩ := o
  obtain rfl : oc = .ref C := hc
  obtain rfl : od = some dx := hd
  unfold storeInOwnDict ownDictForStores instanceDict
  refine wpAny_bind (wpAny_pure (wpAny_bind (wpAny_bind (wpAny_loadPart (same _ _ hx) (wpAny_bind (hcd _ _ _ _ same ?_))))))
  rw [hh]
  refine wpAny_pure (a := some dx) ?_
  show wpAny _ _ (storeInDict dx (.str name tk) name v) _ _ _
  unfold storeInDict newKeyGuard
  refine wpAny_bind (wpAny_pure (wpAny_bind (wpAny_nsSet1 (s := { s with toks := s.toks + 1 }) hn fun h' hn' hs => ?_)))
  obtain ⟨oD, esD, epD, hoD, hdD, hcD⟩ := hn'.count (Within.cons name v hw)
  refine wpAny_bind (wpAny_lookBehind hoD ?_ (wpAny_pure (hR _ (h h' _ hs hn'))))
  rw [hdD]; exact pastItsLine_dict (Nat.le_trans hcD (by rw [sizeLine_eq, List.length_cons]; omega))
end
end EX
set_option maxRecDepth 100000
namespace EX
open PySem Builtin Builtin.ObjectAttr
structure GetOk (M : Model) (h : Heap) (C : Addr) (name : Str) : Prop where
  ga : Lk M h (typeLookup (.ref C) "__getattribute__") (some (.builtin "BaseException.__getattribute__"))
  hk : Lk M h (typeLookup (.ref C) "__getattr__") none
  no : Lk M h (typeLookup (.ref C) name) none
  ob : Lk M h (isSubtype (.ref C) (.type "BaseException")) true
  cd : ∃ cd, Lk M h (classData C) cd ∧ cd.hasDict = true
theorem oga_as (self : Value) (name : Str) (tk : Tok) : ∃ miss : Value → Sem Fin, Builtin.«object.__getattribute__» ⟨[self, .str name tk], []⟩ = (typeOf self >>= fun tp => find self tp name >>= fun f =>
    match f with | .value v => ret v | .bind g a => bindTo g a self tp | .missing => miss tp) := ⟨_, rfl⟩
section
variable {prog : Program} {w : World} {A : Around} {E : Value → Shared → Prop} {s : Shared} {x C dx : Addr} {o : Obj} {name : Str} {v : Value} {mA : Str → Option Value} {vs : Array Value}
theorem ga_slot : Slot "ValueError" "__getattribute__" "BaseException.__getattribute__" := PySem.F.excAttr_ValueError.ga
theorem get_at {expr : Bool} {Q : Value → Shared → Prop} (G : GetOk (model prog w) s.heap C name) (hx : s.heap.get? x = some o) (hc : o.cls = .ref C) (hd : o.dict = some dx) (hv : o.data = .fields vs) (hn : s.heap.Ns dx mA)
    (hm : mA name = some v) (ho : ∀ i, v ≠ .builtin i) (h : Q v { s with toks := s.toks + 1 }) : wpAny (model prog w) A (getAttr (.ref x) name expr) Q E s := by
  obtain ⟨cd, hcd, hh⟩ := G.cd
  obtain ⟨oc, od, dt, sl⟩ := o
  obtain rfl : oc = .ref C := hc
  obtain rfl : od = some dx := hd
  obtain rfl : dt = .fields vs := hv
  have ty := type_at (M := model prog w) hx rfl
  have same : ∀ b o, s.heap.get? b = some o → ({ s with toks := s.toks + 1 } : Shared).heap.get? b = some o := fun _ _ e => e
  have hand : handedOut v = pure v := by
    cases v <;> first | rfl | exact absurd rfl (ho _)
  unfold getAttr getAttrBy
  refine wpAny_bind (wpAny_mkText (wpAny_holding (wpAny_bind (ty _ _ _ _ same (wpAny_bind (G.ga _ _ _ _ same ?_))))))
  have e0 : (onTheHeap (Value.ref C) && Value.builtin "BaseException.__getattribute__" == Value.builtin "object.__getattribute__") = false := by
    rw [show (Value.builtin "BaseException.__getattribute__" == Value.builtin "object.__getattribute__") = false by decide +kernel, Bool.and_false]
  show wpAny _ _ (if (onTheHeap (Value.ref C) && Value.builtin "BaseException.__getattribute__" == Value.builtin "object.__getattribute__") = true then _ else _) _ _ _
  rw [e0, if_neg Bool.false_ne_true]
  unfold getAttrByItsOwn hookBefore
  refine wpAny_bind (G.hk _ _ _ _ same (wpAny_bind (wpAny_attempt (wpAny_holding ?_))))
  unfold callGetattribute boundAndCalled
  have e1 : (expr && onTheHeap (Value.builtin "BaseException.__getattribute__")) = false := by cases expr <;> rfl
  rw [e1, if_neg Bool.false_ne_true, ga_slot.bind]
  refine wpAny_bind (wpAny_pure (wpAny_call ?_))
  refine codeAny_call_builtin ga_slot.plain PySem.F.entry_bexc_ga ?_
  have ag := PySem.F.args_bexc_ga (.ref x) (.str name s.toks)
  have ii := inst_lk (M := model prog w) hx rfl G.ob
  refine @slot_check _ _ { s with toks := s.toks + 1 } (model prog w) "BaseException.__getattribute__" "BaseException" "__getattribute__" (.ref x) [.str name s.toks] _ (by decide +kernel) (by decide +kernel) ii ag ?_
  obtain ⟨miss, em⟩ := oga_as (.ref x) name s.toks
  rw [show ([Value.ref x] ++ [Value.str name s.toks]) = [.ref x, .str name s.toks] from rfl, em]
  refine wpAny_bind (ty _ _ _ _ same (wpAny_bind ?_))
  unfold find
  refine wpAny_bind (G.no _ _ _ _ same (wpAny_bind (wpAny_pure (wpAny_bind (wpAny_pure ?_)))))
  unfold ownThenClass inOwnDict ownDict instanceDict
  refine wpAny_bind (wpAny_bind (wpAny_bind (wpAny_loadPart (same _ _ hx) (wpAny_bind (wpAny_loadPart (same _ _ hx) (wpAny_bind (hcd _ _ _ _ same ?_)))))))
  rw [hh]
  refine wpAny_pure (a := some dx) ?_
  refine wpAny_nsGet (s := { s with toks := s.toks + 1 }) hn ?_
  rw [hm]
  refine wpAny_bind (wpAny_rule (wpAny_pure (wpAny_pure ?_)))
  show wpAny _ _ (handedOut v) _ _ _
  rw [hand]
  exact wpAny_pure h
end
end EX
set_option maxRecDepth 100000
namespace EX
open PySem
section
variable {prog : Program} {w : World} {A : Around} {E : Value → Shared → Prop} {h : Heap} {g : Array GenState} {d : Drawn} {t : Nat} {os : OsState}
variable {nm q : Str} {C N : Addr} {bs bm bmB : List Value} {hdct : Bool} {sn : List Str} {sub : List Value} {ab : Bool} {col : Option Bool} {dd : Option Addr} {k0 k1 k2 k3 k5 : Option Value} {B newId initId : String}
end
end EX
set_option maxRecDepth 100000
namespace EX
open PySem PySem.W Builtin Builtin.ObjectAttr
section
variable {prog : Program} {w : World} {A : Around} {E : Value → Shared → Prop} {s : Shared} {x C : Addr} {o : Obj} {od : Option Obj} {K : Frag}
theorem find_class (hc : (clsIn K C).isSome = true) (ha : findIn K (.ref C) "__class__" = some (some (.builtin "object.__class__"))) (hg : specialIn K (.builtin "object.__class__") "__get__" = some (some (.builtin "getset_descriptor.__get__")))
    (ht : takesIn K (.builtin "object.__class__") = some true) : findObj K C od "__class__" = some (.bind (.builtin "getset_descriptor.__get__") (.builtin "object.__class__")) := by
  obtain ⟨cd, hc⟩ := Option.isSome_iff_exists.mp hc
  unfold findObj
  rw [hc, ha]
  simp only [Option.bind_some, hg, ht]
theorem class_at {Q : Option Value → Shared → Prop} (X : K.In s.heap) (I : InstAt s.heap x o C od) (ga : findIn K (.ref C) "__getattribute__" = some (some (.builtin "BaseException.__getattribute__"))) (hk : findIn K (.ref C) "__getattr__" = some none)
    (be : mroIn K C (.type "BaseException") = some true) (ob : mroIn K C (.type "object") = some true) (hf : findObj K C od "__class__" = some (.bind (.builtin "getset_descriptor.__get__") (.builtin "object.__class__")))
    (h : Q (some (.ref C)) { s with toks := s.toks + 1 }) : wpAny (model prog w) A (getAttr? (.ref x) "__class__") Q E s := by
  have ty := I.type (M := model prog w)
  have same : ∀ b o, s.heap.get? b = some o → ({ s with toks := s.toks + 1 } : Shared).heap.get? b = some o := fun _ _ e => e
  unfold getAttr? getAttrBy? getAttrBy
  refine wpAny_bind (wpAny_mkText (wpAny_bind (wpAny_attempt (wpAny_holding (wpAny_bind (ty _ _ _ _ same (wpAny_bind (looks_findIn X ga _ _ _ _ same ?_))))))))
  have e0 : (onTheHeap (Value.ref C) && Value.builtin "BaseException.__getattribute__" == Value.builtin "object.__getattribute__") = false := by
    rw [show (Value.builtin "BaseException.__getattribute__" == Value.builtin "object.__getattribute__") = false by decide +kernel, Bool.and_false]
  show wpAny _ _ (if (onTheHeap (Value.ref C) && Value.builtin "BaseException.__getattribute__" == Value.builtin "object.__getattribute__") = true then _ else _) _ _ _
  rw [e0, if_neg Bool.false_ne_true]
  unfold getAttrByItsOwn hookBefore
  refine wpAny_bind (looks_findIn X hk _ _ _ _ same (wpAny_bind (wpAny_attempt (wpAny_holding ?_))))
  unfold callGetattribute boundAndCalled
  rw [Bool.false_and, if_neg Bool.false_ne_true, ga_slot.bind]
  refine wpAny_bind (wpAny_pure (wpAny_call ?_))
  refine codeAny_call_builtin ga_slot.plain PySem.F.entry_bexc_ga ?_
  have ag := PySem.F.args_bexc_ga (.ref x) (.str "__class__" s.toks)
  have ii := inst_lk (M := model prog w) I.at_ I.cls (looks_mroIn X be)
  refine @slot_check _ _ { s with toks := s.toks + 1 } (model prog w) "BaseException.__getattribute__" "BaseException" "__getattribute__" (.ref x) [.str "__class__" s.toks] _ (by decide +kernel) (by decide +kernel) ii ag ?_
  obtain ⟨miss, em⟩ := oga_as (.ref x) "__class__" s.toks
  rw [show ([Value.ref x] ++ [Value.str "__class__" s.toks]) = [.ref x, .str "__class__" s.toks] from rfl, em]
  refine wpAny_bind (ty _ _ _ _ same (wpAny_bind (looks_find X I hf _ _ _ _ same ?_)))
  show wpAny _ _ (holding [Value.builtin "object.__class__"] (call (.builtin "getset_descriptor.__get__") [.builtin "object.__class__", .ref x, .ref C]) >>= ret) _ _ _
  refine wpAny_bind (wpAny_holding (wpAny_call (class_get (s := { s with toks := s.toks + 1 }) (ox := o) (od := od) X I ob ?_)))
  exact wpAny_pure (wpAny_pure (wpAny_pure h))
end
end EX
namespace L2
open PySem PySem.Spec PyProof.Rows
def XO (a C : Addr) (od : Option Addr) (new : Bool) (h : Heap) : Prop := ∃ vs sl, h.get? a = some ⟨.ref C, od, .fields vs, sl⟩ ∧ 1 < vs.size ∧ (new = true → vs[1]? = some .none)
abbrev XHO (a C : Addr) (od : Option Addr) (new : Bool) : HO := .ext (XO a C od new)
def DO (a : Addr) (fs : List (Str × V)) (h : Heap) : Prop := fs.length ≤ 100 ∧ ∃ mA, h.Ns1 a mA ∧ (∀ f, RelO (fs.lookup f) (mA f)) ∧ PySem.Within mA (fs.map (·.1))
abbrev DHO (a : Addr) (fs : List (Str × V)) : HO := .ext (DO a fs)
section
variable {P : Program} {w : World} {H : Hp} {h : Heap} {a C : Addr} {od : Option Addr} {new : Bool} {fs : List (Str × V)}
theorem XO.ok (x : XO a C od new h) : ObjOk P w H h a (XHO a C od new) := by
  obtain ⟨vs, sl, e, z⟩ := x
  exact ⟨⟨vs, sl, e, z⟩, ⟨_, e⟩, fun h1 h2 ⟨vs, sl, e, z⟩ k => ⟨vs, sl, k _ e, z⟩⟩
theorem DO.ok (x : DO a fs h) : ObjOk P w H h a (DHO a fs) := by
  obtain ⟨z, mA, ⟨o, es, ep, e, r⟩, q⟩ := x
  exact ⟨⟨z, mA, ⟨o, es, ep, e, r⟩, q⟩, ⟨o, e⟩, fun h1 h2 ⟨z, mA, ⟨o, es, ep, e, r⟩, q⟩ k => ⟨z, mA, ⟨o, es, ep, k _ e, r⟩, q⟩⟩
theorem HOk.xo (x : HOk P w H h) (e : H a = some (XHO a C od new)) : XO a C od new h := (x a _ e).1
theorem HOk.do_ (x : HOk P w H h) (e : H a = some (DHO a fs)) : DO a fs h := (x a _ e).1
end
def veMro : List Value := [.type "ValueError", .type "Exception", .type "BaseException", .type "object"]
def onlyVE : List Value → Bool
  | .ref _ :: r => onlyVE r
  | l => l == veMro
theorem refuse_ve (self : Value) : ∀ {l : List Value}, onlyVE l = true → refuseLoop self "__setattr__" l = pure ()
  | [], e => by cases e
  | v :: r, e => by
    cases v with
    | ref c => rw [refuseLoop_ref]; exact refuse_ve self (l := r) e
    | type n => rw [show (Value.type n :: r) = veMro from beq_iff_eq.mp e]; exact PySem.F.store_ValueError.passes self
    | _ => cases (show _ = veMro from beq_iff_eq.mp e)
structure XCls (K : PySem.W.Frag) (C : Addr) : Prop where
  sa : PySem.W.findIn K (.ref C) "__setattr__" = some (some (.builtin "object.__setattr__"))
  ga : PySem.W.findIn K (.ref C) "__getattribute__" = some (some (.builtin "BaseException.__getattribute__"))
  hk : PySem.W.findIn K (.ref C) "__getattr__" = some none
  ca : PySem.W.findIn K (.ref C) "__class__" = some (some (.builtin "object.__class__"))
  be : PySem.W.mroIn K C (.type "BaseException") = some true
  ob : PySem.W.mroIn K C (.type "object") = some true
  hd : PySem.W.hasDictIn K C = true
  ty : PySem.W.typeIn K (.ref C) = some (.type "type")
  rf : ((PySem.W.clsIn K C).any fun cd => onlyVE cd.mro) = true
  gs : PySem.W.specialIn K (.builtin "object.__class__") "__get__" = some (some (.builtin "getset_descriptor.__get__"))
  tk : PySem.W.takesIn K (.builtin "object.__class__") = some true
theorem sa_facts : EX.SaFacts := ⟨PySem.F.store_object.slot, PySem.F.store_object.entry, PySem.F.store_object.kind, PySem.F.store_object.split, PySem.F.store_object.args⟩
section
variable {K : PySem.W.Frag} {C x : Addr} {M : Model} {h : Heap} {f : Str} {o : Obj}
theorem XCls.setOk (c : XCls K C) (X : K.In h) (n : NoAttr K C f) (hx : h.get? x = some o) (hc : o.cls = .ref C) : EX.SetOk M h x C f := by
  refine ⟨PySem.W.looks_findIn X c.sa, PySem.W.looks_findIn X n, ?_, PySem.W.looks_mroIn X c.ob, ?_⟩
  · obtain ⟨cd, hc', e⟩ := PySem.W.any_some c.rf
    have hm : PySem.W.Looks M h (mroOf (.ref C)) cd.mro := (PySem.W.looks_clsIn X hc').andThen .now
    intro A Q E s k q
    rw [refuse_eq]
    refine wpAny_bind (EX.type_at hx hc _ _ _ _ k (wpAny_bind (hm _ _ _ _ k ?_)))
    rw [refuse_ve _ e]
    exact wpAny_pure q
  · obtain ⟨cd, hc', e⟩ := PySem.W.any_some c.hd
    exact ⟨cd, PySem.W.looks_clsIn X hc', e⟩
theorem XCls.getOk (c : XCls K C) (X : K.In h) (n : NoAttr K C f) : EX.GetOk M h C f := by
  obtain ⟨cd, hc', e⟩ := PySem.W.any_some c.hd
  exact ⟨PySem.W.looks_findIn X c.ga, PySem.W.looks_findIn X c.hk, PySem.W.looks_findIn X n, PySem.W.looks_mroIn X c.be, cd, PySem.W.looks_clsIn X hc', e⟩
end
section
variable {X : Cx} {pins : List (Addr × Obj)} {σ : St} {H : Hp} {s : Shared} {h' : Heap} {t' : Nat}
theorem ext_ne {a b : Addr} {φ : Heap → Prop} {u : HO} (e : H a = some (.ext φ)) (q : H b = some u) (hu : ∀ ψ, u ≠ .ext ψ) : b ≠ a := fun z => by
  subst z; rw [q] at e; exact hu _ (Option.some.inj e)
theorem Inv.wr2 {a d : Addr} {o u : HO} {φ : Heap → Prop} (I : Inv X pins σ H s) (ea : H a = some (.ext φ)) (hd : s.heap.objs.size ≤ d) (k : ∀ b v, b ≠ a → s.heap.get? b = some v → h'.get? b = some v)
    (na : ObjOk X.prog X.w (upd (upd H d u) a o) h' a o) (nd : ObjOk X.prog X.w (upd (upd H d u) a o) h' d u) (hh : ∃ v, h'.get? a = some v) : Inv X pins σ (upd (upd H d u) a o) { s with heap := h', toks := t' } := by
  have hfd : H d = none := I.hok.fresh hd
  have nda : d ≠ a := fun z => by rw [z, ea] at hfd; cases hfd
  have at_ : ∀ {b : Addr}, b ≠ a → b ≠ d → upd (upd H d u) a o b = H b := fun h1 h2 => by rw [upd_ne h1, upd_ne h2]
  have nd_ : ∀ {b : Addr} {v : HO}, H b = some v → b ≠ d := fun q z => by rw [z, hfd] at q; cases q
  have na_ : ∀ {b : Addr}, H b = none → b ≠ a := fun q z => by rw [z, ea] at q; cases q
  refine I.un ⟨fun b v q n _ _ => k b v (na_ n) q, fun b v q n _ _ => ⟨v.slots, k b v (na_ n) q⟩, fun b v q n _ => ?_, fun b v q _ => ?_, fun b xs q => ?_, fun b v xs q => ?_, fun b ps q => ⟨#[], ?_⟩⟩ fun b v q => ?_
  · rw [at_ (na_ n) (Nat.ne_of_lt (Nat.lt_of_lt_of_le (Heap.lt_size q) hd))]; exact n
  · by_cases z : b = a
    · rw [z]; exact hh
    · exact ⟨v, k b v z q⟩
  · rw [at_ (ext_ne ea q fun _ z => nomatch z) (nd_ q)]; exact q
  · rw [at_ (ext_ne ea q fun _ z => nomatch z) (nd_ q)]; exact q
  · rw [at_ (ext_ne ea q fun _ z => nomatch z) (nd_ q), q]; simp
  · by_cases z : b = a
    · subst z; rw [upd_same] at q; cases q; exact na
    · by_cases z2 : b = d
      · subst z2; rw [upd_ne z, upd_same] at q; cases q; exact nd
      · rw [at_ z z2] at q
        refine (I.hok b v q).stay (fun c w' hc r => k c w' ?_ r) (fun c r => ?_) fun c xs r => ?_
        · rcases hc with hc | hc
          · rw [hc]; exact z
          · exact ext_ne ea hc fun _ y => nomatch y
        · rw [at_ (ext_ne ea r fun _ y => nomatch y) (nd_ r)]; exact r
        · rw [at_ (ext_ne ea r fun _ y => nomatch y) (nd_ r)]; exact r
end
def sFldX (K : PySem.W.Frag) (ta tv : TE) (f : Str) : TS := fun D σ H => tv σ H fun y H1 => ta σ H1 fun x H2 => ∃ a C od new, x = .ref a ∧ H2 a = some (XHO a C od new) ∧ XCls K C ∧ NoAttr K C f ∧
  ((od = none ∧ ∀ d, H2 d = none → d ≠ a → D.nx σ (upd (upd H2 d (DHO d [(f, y)])) a (XHO a C (some d) new))) ∨
   (∃ d fs, od = some d ∧ H2 d = some (DHO d fs) ∧ fs.length < 100 ∧ D.nx σ (upd H2 d (DHO d (putF f y fs)))))
section
variable {X : Cx} {o e value : Expr} {f : Str} {pos pos' : Pos} {ta tv : TE}
theorem ps_fldX (ha : PE X o ta) (hv : PE X value tv) (hs : swapsWith value (some (.Attribute o f pos')) pos.line X.env = pure false) : PS X (.Assign [.Attribute o f pos'] value pos) (sFldX X.K ta tv f) := by
  intro pins s σ H D I h
  refine plainObj_wpAny_Assign_Attribute (thn (hv pins s σ H _ I h) fun u s1 ⟨y, H1, I1, ry, q⟩ => thn (ha pins s1 σ H1 _ I1 q) fun ov s2 ⟨x, H2, I2, rx, a, C, od, new, ex, ea, c, n, q2⟩ => ?_) hs
  subst ex
  obtain rfl : ov = Value.ref a := rx
  obtain ⟨vs, sl, hx, z1, z2⟩ := I2.hok.xo ea
  have S := c.setOk (M := model X.prog X.w) I2.kIn n hx rfl
  rcases q2 with ⟨rfl, q2⟩ | ⟨d, fs, rfl, ed, hl, q2⟩
  · refine EX.set_first sa_facts S hx rfl rfl rfl fun h' tk k e1 ns => ?_
    have hf : H2 s2.heap.objs.size = none := I2.hok.fresh (Nat.le_refl _)
    have nx : s2.heap.objs.size ≠ a := Nat.ne_of_gt (Heap.lt_size hx)
    refine ⟨σ, _, I2.wr2 (d := s2.heap.objs.size) (u := DHO s2.heap.objs.size [(f, y)]) (o := XHO a C (some s2.heap.objs.size) new) ea (Nat.le_refl _) k (XO.ok ⟨vs, sl, e1, z1, z2⟩) (DO.ok ⟨by simp, _, ns, fun g => ?_, fun g hg => ?_⟩) ⟨_, e1⟩, q2 _ hf nx⟩
    · by_cases z : g = f
      · subst z; simp only [List.lookup, beq_self_eq_true, if_true]; exact ry
      · simp only [List.lookup, beq_eq_false_iff_ne.mpr z, if_neg z]; trivial
    · by_cases z : g = f
      · subst z; simp
      · exact absurd (show (if g = f then some u else none) = none from if_neg z) hg
  · obtain ⟨z3, mA, ns, r, wi⟩ := I2.hok.do_ ed
    refine EX.set_next sa_facts S hx rfl rfl ns wi (by rw [List.length_map]; omega) fun h' tk sb ns' => ⟨σ, _, ?_, q2⟩
    have hd : ∃ u, h'.get? d = some u := let ⟨o, _, _, e', _⟩ := ns'; ⟨o, e'⟩
    refine I2.write (x := d) (e := d) (by rw [ed]; exact True.intro) (.inl rfl) (fun b v hb z => (sb.2 b hb).trans z) hd (DO.ok ⟨?_, _, ns', fun g => ?_, fun g hg => ?_⟩)
    · have := length_putF f y fs; omega
    · show RelO ((putF f y fs).lookup g) (if g = f then some u else mA g)
      rw [lookup_putF]
      by_cases z : g = f
      · rw [if_pos z, if_pos z]; exact ry
      · rw [if_neg z, if_neg z]; exact r g
    · by_cases z : g = f
      · rw [z]; exact (keys_putF f y fs).1
      · exact (keys_putF f y fs).2 g (wi g fun z' => hg (show (if g = f then some u else mA g) = none by rw [if_neg z]; exact z'))
def tFldX (K : PySem.W.Frag) (ta : TE) (f : Str) : TE := fun σ H Q => ta σ H fun x H1 => ∃ a C d new fs v, x = .ref a ∧ H1 a = some (XHO a C (some d) new) ∧ H1 d = some (DHO d fs) ∧ XCls K C ∧ NoAttr K C f ∧ fs.lookup f = some v ∧ Q v H1
theorem relv_nb {v : V} {u : Value} (r : RelV v u) : ∀ i, u ≠ .builtin i := fun i z => by
  subst z
  cases v with
  | non => cases (show Value.builtin i = Value.none from r)
  | bl b => cases (show Value.builtin i = Value.bool b from r)
  | int n => obtain ⟨t, e⟩ := (show ∃ t, Value.builtin i = Value.int n t from r); cases e
  | str x => obtain ⟨t, e⟩ := (show ∃ t, Value.builtin i = Value.str x t from r); cases e
  | byt b => obtain ⟨t, e⟩ := (show ∃ t, Value.builtin i = Value.bytes b t from r); cases e
  | flt b => obtain ⟨t, e⟩ := (show ∃ t, Value.builtin i = Value.float b t from r); cases e
  | ref a => cases (show Value.builtin i = Value.ref a from r)
  | ty n => cases (show Value.builtin i = Value.type n from r)
theorem pe_fldX (he : PE X e ta) (hb : attributeBase e f X.env (eval e X.env) = eval e X.env) : PE X (.Attribute e f pos) (tFldX X.K ta f) := by
  intro pins s σ H Q I h
  refine attr_of hb (thn (he pins s σ H _ I h) fun u s1 ⟨x, H1, I1, rx, a, C, d, new, fs, v, ex, ea, ed, c, n, l, q⟩ => ?_)
  subst ex
  obtain rfl : u = Value.ref a := rx
  obtain ⟨vs, sl, hx, _⟩ := I1.hok.xo ea
  obtain ⟨_, mA, ns, r, _⟩ := I1.hok.do_ ed
  obtain ⟨u', hu, ru⟩ := RelO.some_of (v := v) (o := mA f) (by rw [← l]; exact r f)
  exact EX.get_at (c.getOk I1.kIn n) hx rfl rfl rfl ns.ns hu (relv_nb ru) ⟨v, H1, I1.tok _, ru, q⟩
end
end L2
namespace L2
open PySem PySem.Spec PyProof.Rows
def xIn (K : PySem.W.Frag) (C : Addr) : Bool :=
  match K.lookup C with
  | some ⟨.type "type", _, .cls cd, ⟨[_, _, _, _, some (.builtin n), _]⟩⟩ => match cd.mro with
    | .ref C' :: bm => C' == C && n == "ValueError.__new__" && !cd.hasDel && PySem.W.tailIn K veMro bm
    | _ => false
  | _ => false
theorem x_cls {K : PySem.W.Frag} {h : Heap} {C : Addr} (X : K.In h) (q : xIn K C = true) : ∃ nm qn N bs bm hdct sn sub ab col dd k0 k1 k2 k3 k5,
    h.get? C = some (excClassObj nm qn C N bs bm hdct sn sub ab col dd k0 k1 k2 k3 k5 "ValueError.__new__") ∧ OwnTail h veMro bm := by
  unfold xIn at q
  split at q
  · rename_i dd cd k0 k1 k2 k3 n k5 ho
    split at q
    · rename_i C' bm hm
      simp only [Bool.and_eq_true, beq_iff_eq, Bool.not_eq_true'] at q
      obtain ⟨⟨⟨rfl, rfl⟩, hdel⟩, ht⟩ := q
      obtain ⟨nm, bs, mro, ns, qn, hd, sn, sub, ab, col, del⟩ := cd
      dsimp only at hm hdel
      subst hm
      subst hdel
      exact ⟨nm, qn, ns, bs, bm, hd, sn, sub, ab, col, dd, k0, k1, k2, k3, k5, X _ _ ho, PySem.W.tail_of_in X ht⟩
    · cases q
  · cases q
structure XMk (K : PySem.W.Frag) (C f : Addr) : Prop where
  made : xIn K C = true
  init : PySem.W.findIn K (.ref C) "__init__" = some (some (.ref f))
  fn : PySem.W.isFn K (.ref f) = true
  kp : PySem.W.keepIn K (.ref C) = true
structure XMk0 (K : PySem.W.Frag) (C : Addr) : Prop where
  made : xIn K C = true
  init : PySem.W.findIn K (.ref C) "__init__" = some (some (.builtin "ValueError.__init__"))
  kp : PySem.W.keepIn K (.ref C) = true
def tMkX (C : Addr) (sp : Sp) (E : XK) (t : TA) : TE := fun σ H Q => t σ H fun vs H1 => vs.length ≤ 100 ∧ ∀ x, H1 x = none → sp (.ref x :: vs) (upd H1 x (XHO x C none true)) (fun v H2 => v = .non ∧ Q (.ref x) H2) E
def tMkX0 (C : Addr) (t : TA) : TE := fun σ H Q => t σ H fun vs H1 => vs.length ≤ 100 ∧ ∀ x, H1 x = none → Q (.ref x) (upd H1 x (XHO x C none true))
section
variable {X : Cx} {CX : CXT} {k : Nat} {f C : Addr} {fd : FuncData} {ps : List Str} {sp : Sp} {E : XK} {x m : Str} {p pos : Pos} {e : Expr} {es : List Expr} {t : TA}
theorem run_mkX {pins : List (Addr × Obj)} {σ : St} {H : Hp} {s : Shared} {Q : VK} {us : List Value} {vs : List V} (M : XMk X.K C f) (F : FnOk X.prog X.w X.K X.mg X.base CX k f fd ps sp) (hr : Room (k + 1) X.A) (hb : Binds X.K fd ps [])
    (hx : Passes CX X E) (I : Inv X pins σ H s) (r : Vals vs us) (hz : vs.length ≤ 100)
    (h : ∀ x, H x = none → sp (.ref x :: vs) (upd H x (XHO x C none true)) (fun v H2 => v = .non ∧ Q (.ref x) H2) E) :
    wpAny (model X.prog X.w) X.A (call (.ref C) us) (EP X pins σ Q) X.xe s := by
  obtain ⟨nm, qn, N, bs, bm, hdct, sn, sub, ab, col, dd, k0, k1, k2, k3, k5, hC, T⟩ := x_cls I.kIn M.made
  have hq := h (s.heap.objs.size + 1) (I.hok.fresh (Nat.le_succ _))
  have I2 : Inv X pins σ (upd H (s.heap.objs.size + 1) (XHO (s.heap.objs.size + 1) C none true)) { s with heap := EX.made s.heap C us } :=
    I.laid (a := s.heap.objs.size + 1) (t' := s.toks) EX.made_keep (Nat.le_succ _) (XO.ok ⟨_, _, EX.made_at, by simp, fun _ => rfl⟩)
  have r2 : Vals (V.ref (s.heap.objs.size + 1) :: vs) (Value.ref (s.heap.objs.size + 1) :: us) := .cons rfl r
  have hl : (Value.ref (s.heap.objs.size + 1) :: us ++ []).length = ps.length := by
    rw [List.append_nil, ← r2.length]; exact F.len _ _ _ _ hq
  have hu : us.length ≤ sizeLine := by rw [← r.length]; exact Nat.le_of_lt (small1000 (by omega))
  have bb := hb _ (Value.ref (s.heap.objs.size + 1) :: us) I2.kIn hl
  rw [List.append_nil] at bb
  obtain ⟨hh, gg, d, tk, os⟩ := s
  refine EX.exc_call PySem.F.excBase_ValueError T hC (PySem.W.looks_findIn I.kIn M.init) (PySem.W.looks_typeIn I.kIn (beq_iff_eq.mp M.fn)) hu ?_
  refine wpAny_call (codeAny_mono (F.run _ X.stack _ _ ⟨Value.ref (hh.objs.size + 1) :: us, []⟩ _ _ _ E (hr.make C us []) (I2.env0.make C us []) bb r2 hq) fun r s' hq' => ?_)
  cases r with
  | error e => exact hx pins σ _ _ e s' I2 hq'
  | ok fl =>
    cases fl with
    | ret u =>
      obtain ⟨v, H', I3, rv, ev, q3⟩ := I2.after hq'
      subst ev
      exact ⟨rv, ⟨V.ref (hh.objs.size + 1), H', I3, rfl, q3⟩⟩
    | next => exact False.elim hq'
    | brk => exact False.elim hq'
    | cont => exact False.elim hq'
theorem pe_mkX (M : XMk X.K C f) (F : FnOk X.prog X.w X.K X.mg X.base CX k f fd ps sp) (hr : Room (k + 1) X.A) (hg : Gl X x) (hm : X.mg x = some (.ref C)) (hb : Binds X.K fd ps []) (hx : Passes CX X E)
    (ha : PA X (e :: es) t) (hdb : (x == ("__debug__" : Str)) = false := by decide) (he : starEach (e :: es) X.env = (false, eval e X.env) :: starEach es X.env := by rfl) (hpl : (backTo pos (starEach es X.env)).any (·.1) = false := by rfl) :
    PE X (.Call (.Name x p) (e :: es) [] pos) (tMkX C sp E t) := by
  intro pins s σ H Q I h
  refine wpAny_Call_Name_kw (ld_glob I hg hm ?_ hdb)
  exact PySem.W.callWith_K (h₀ := X.base) I.ok.mod.kin M.kp (thn (ha pos pins s σ H _ I h) fun us s1 ⟨vs, H1, I1, r, z, q⟩ => ⟨I1.kIn, run_mkX M F hr hb hx I1 r z q⟩) he hpl
end
def Cx.tr (X : Cx) (pn : List (Addr × Obj)) (W : St → Hp → Addr → Addr → Option Addr → Prop) : Cx := { X with pn := pn, xe := fun v s' => ∃ e σ' H' C od, v = .ref e ∧ Inv { X with pn := pn } [] σ' H' s' ∧ H' e = some (XHO e C od true) ∧ W σ' H' e C od }
def Cx.ec (X : Cx) (e : Addr) : Cx := { X with A := X.A.mark (some (.ref e)), calm := false, xe := fun _ _ => False }
section
variable {X : Cx} {pins pn : List (Addr × Obj)} {σ : St} {H : Hp} {s : Shared} {e : Addr} {W : St → Hp → Addr → Addr → Option Addr → Prop}
theorem Inv.toPn (I : Inv X pins σ H s) : Inv { X with pn := X.pn ++ pins } [] σ H s :=
  ⟨⟨I.ok.mod, I.ok.kind, I.ok.glob, I.ok.blt, I.ok.above, I.ok.inj, I.ok.has, I.ok.cab, I.ok.hd, I.ok.frames, I.ok.stk, I.ok.exf, I.ok.bs, I.ok.bsz, I.ok.noex, I.ok.exfs, I.ok.funs, I.ok.frf⟩, I.os, I.bare, I.base, I.loc, I.cell, I.free, I.freeC,
    fun p hp => I.pin p (by simpa using hp), I.hok, I.len⟩
theorem Inv.ofPn (I : Inv { X with pn := X.pn ++ pins } [] σ H s) : Inv X pins σ H s :=
  ⟨⟨I.ok.mod, I.ok.kind, I.ok.glob, I.ok.blt, I.ok.above, I.ok.inj, I.ok.has, I.ok.cab, I.ok.hd, I.ok.frames, I.ok.stk, I.ok.exf, I.ok.bs, I.ok.bsz, I.ok.noex, I.ok.exfs, I.ok.funs, I.ok.frf⟩, I.os, I.bare, I.base, I.loc, I.cell, I.free, I.freeC,
    fun p hp => I.pin p (by simpa using hp), I.hok, I.len⟩
theorem Inv.toEc (I : Inv X pins σ H s) : Inv (X.ec e) pins σ H s :=
  ⟨⟨I.ok.mod, I.ok.kind, I.ok.glob, I.ok.blt, I.ok.above, I.ok.inj, I.ok.has, I.ok.cab, (fun z => nomatch z), I.ok.frames, I.ok.stk, I.ok.exf, I.ok.bs, I.ok.bsz, I.ok.noex, I.ok.exfs, I.ok.funs, I.ok.frf⟩, I.os, I.bare, I.base, I.loc, I.cell, I.free, I.freeC,
    I.pin, I.hok, I.len⟩
theorem Inv.ofEc (ok : X.Ok) (I : Inv (X.ec e) pins σ H s) : Inv X pins σ H s := ⟨ok, I.os, I.bare, I.base, I.loc, I.cell, I.free, I.freeC, I.pin, I.hok, I.len⟩
end
def tRaise (K : PySem.W.Frag) (W : St → Hp → Addr → Addr → Option Addr → Prop) (te : TE) : TS := fun _ σ H => te σ H fun v H1 => ∃ a C od, v = .ref a ∧ H1 a = some (XHO a C od true) ∧ XCls K C ∧ W σ H1 a C od
end L2
namespace L2
open PySem PySem.Spec PyProof.Rows
section
variable {X : Cx} {pins : List (Addr × Obj)} {σ : St} {H : Hp} {s : Shared}
theorem gone_ok {M : Model} {A : Around} {E : Value → Shared → Prop} {i : Nat} {n : Str} {pos : Pos} {Q : Unit → Shared → Prop} (I : Inv X pins σ H s) (hN : X.N.Nodup) (hi : X.N[i]? = some n) (hk : X.env.kindOf n = some .local)
    (h : ∀ s', Inv X pins (σ.set i none) H s' → Q () s') : wpAny M A (do bindName X.env n .none; unbindBehindTheSuite X.env n pos) Q E s := by
  obtain ⟨m, hn, hl⟩ := id I.loc
  have hcls : (X.env.scope.kind == .class || (X.env.scope.kind == .module && X.env.locals != X.env.globals)) = false := by rw [I.ok.kind]; rfl
  have hiσ : i < σ.length := by rw [I.len]; exact (List.getElem?_eq_some_iff.mp hi).1
  obtain ⟨oL, _, _, hoL, _⟩ := id hn
  refine wpAny_nameGoes_keeps hk hn hcls fun h' v hn' hs => ?_
  have ne : ∀ b o, X.s₀.heap.get? b = some o → b ≠ X.env.locals := fun b o e => Nat.ne_of_lt (Nat.lt_of_lt_of_le (Heap.lt_size e) I.ok.above)
  have hok : HOk X.prog X.w H h' := fun b ob e => by
    refine (I.hok b ob e).stay (fun c w' hc q => (hs.2 c ?_).trans q) (fun _ q => q) fun _ _ q => q
    rintro rfl
    rcases hc with rfl | hc
    · rw [I.free] at e; cases e
    · rw [I.free] at hc; cases hc
  refine h _ ⟨I.ok, I.os, I.bare, ⟨fun b o e n hb hx => ?_, fun b o e n hb hx => ?_, I.base.free, fun b o e hx => ?_, I.base.tups, I.base.frzs, I.base.tbls⟩, ⟨_, hn', fun j y v' e1 e2 e3 => ?_⟩, fun y c e => ?_, I.free, I.freeC, fun p hp => ?_, hok, by simpa using I.len⟩
  · exact (hs.2 b (ne b o e)).trans (I.base.keep b o e n hb hx)
  · obtain ⟨sl, e1⟩ := I.base.slot b o e n hb hx
    exact ⟨sl, (hs.2 b (ne b o e)).trans e1⟩
  · obtain ⟨o', e1⟩ := I.base.there b o e hx
    exact ⟨o', (hs.2 b (ne b o e)).trans e1⟩
  · by_cases hj : j = i
    · subst hj
      rw [List.getElem?_set_self hiσ] at e2
      cases e2
    · rw [List.getElem?_set_ne (Ne.symm hj)] at e2
      obtain ⟨u', r', q⟩ := hl j y v' e1 e2 e3
      refine ⟨u', r', ?_⟩
      rcases q with ⟨k, e⟩ | ⟨k, c, e, z⟩
      · refine .inl ⟨k, ?_⟩
        have : y ≠ n := fun e => hj (nodup_ix hN e1 (e ▸ hi))
        simp [this, e]
      · exact .inr ⟨k, c, e, z.sameBut hs (I.cne y c e)⟩
  · obtain ⟨w', z⟩ := I.cell y c e
    exact ⟨w', z.sameBut hs (I.cne y c e)⟩
  · obtain ⟨e, n, ne, nf, d⟩ := I.pin p hp
    exact ⟨(hs.2 p.1 ne).trans e, n, ne, nf, d⟩
theorem Inv.noted {e C T : Addr} {od : Option Addr} {new : Bool} {h1 h2 : Heap} {oe : Obj} (I : Inv X pins σ H s) (ea : H e = some (XHO e C od new)) (N : EX.Noted X.stack e T oe s.heap h1) (k : ∀ b, b ≠ T → h2.get? b = h1.get? b)
    (x : XO e C od false h2) : Inv X pins σ (upd H e (XHO e C od false)) { s with heap := h2 } := by
  have nT : ∀ b o, s.heap.get? b = some o → b ≠ T := fun b o q z => Nat.lt_irrefl _ (Nat.lt_of_lt_of_le (Heap.lt_size (z ▸ q)) N.new)
  have ne : ∀ {b}, H b = none → b ≠ e := fun q z => by rw [z, ea] at q; cases q
  have keep : ∀ b o, b ≠ e → b ∉ frs X.stack → s.heap.get? b = some o → h2.get? b = some o := fun b o hb hf q => (k b (nT b o q)).trans (N.keep b o hb hf q)
  have slot : ∀ b o, b ≠ e → s.heap.get? b = some o → ∃ sl, h2.get? b = some { o with slots := sl } := fun b o hb q => by
    obtain ⟨sl, z⟩ := N.slot b o hb q
    exact ⟨sl, (k b (nT b o q)).trans z⟩
  refine I.call (ch := []) (g' := s.gens) (d' := s.drawn) (t' := s.toks) ⟨fun b o q n hf _ => keep b o (ne n) hf q, fun b o q n _ _ => slot b o (ne n) q, fun b o q n _ => ?_, fun b o q _ => ?_, fun b xs q => ?_, fun b o u q => ?_, fun b p q => ⟨#[], ?_⟩⟩ (fun b u q => ?_) I.bare (fun b z => absurd z (by simp))
  · rw [upd_ne (ne n)]; exact n
  · by_cases z : b = e
    · subst z; obtain ⟨vs, sl, q', _⟩ := x; exact ⟨_, q'⟩
    · obtain ⟨sl, q'⟩ := slot b o z q; exact ⟨_, q'⟩
  · rw [upd_ne (ext_ne ea q fun _ z => nomatch z)]; exact q
  · rw [upd_ne (ext_ne ea q fun _ z => nomatch z)]; exact q
  · rw [upd_ne (ext_ne ea q fun _ z => nomatch z), q]; simp
  · by_cases z : b = e
    · subst z; rw [upd_same] at q; cases q; exact x.ok
    · rw [upd_ne z] at q
      have nf : ∀ {c u}, H c = some u → c ∉ frs X.stack := fun q' hf => by rw [I.stkFree _ hf] at q'; cases q'
      refine (I.hok b u q).stay (fun c w' hc r => ?_) (fun c r => ?_) fun c xs r => ?_
      · rcases hc with hc | hc
        · subst hc; exact keep c w' z (nf q) r
        · exact keep c w' (ext_ne ea hc fun _ y => nomatch y) (nf hc) r
      · rw [upd_ne (ext_ne ea r fun _ y => nomatch y)]; exact r
      · rw [upd_ne (ext_ne ea r fun _ y => nomatch y)]; exact r
end
def Ends.less (D : Ends) (i : Nat) : Ends := { nx := fun σ H => D.nx (σ.set i none) H, rt := D.rt, bk := fun σ H => D.bk (σ.set i none) H, ct := fun σ H => D.ct (σ.set i none) H }
def tTry (K : PySem.W.Frag) (D0 : Addr) (W : St → Hp → Addr → Addr → Option Addr → Prop) (i : Nat) (tb th : TS) : TS := fun D σ H => tb D σ H ∧ ∀ σ' H' e C od, H' e = some (XHO e C od true) → W σ' H' e C od →
  PySem.W.mroIn K C (.ref D0) = some true ∧ th (D.less i) (σ'.set i (some (.ref e))) (upd H' e (XHO e C od false))
section
variable {X : Cx} {W : St → Hp → Addr → Addr → Option Addr → Prop}
theorem is_type_in {K : PySem.W.Frag} {M : Model} {h : Heap} {C : Addr} (k : K.In h) (e : (PySem.W.clsIn K C).isSome = true) : EX.Lk M h (isType (.ref C)) true := by
  unfold PySem.W.clsIn at e
  split at e
  · rename_i ho; exact EX.is_cls (k _ _ ho) rfl
  · cases e
end
section
variable {X : Cx}
end
theorem XCls.here {K : PySem.W.Frag} {C : Addr} (c : XCls K C) : (PySem.W.clsIn K C).isSome = true := by
  obtain ⟨cd, e, _⟩ := PySem.W.any_some c.hd
  rw [e]; rfl
theorem kitx_exc {K : PySem.W.Frag} {x C : Addr} (c : XCls K C) : PySem.W.KitX K (.ref x) (.ref C) (fun h => ∃ o od, PySem.W.InstAt h x o C od) where
  ty := fun M h X ⟨o, od, I⟩ => I.type
  it := fun M h X _ => is_type_in X c.here
  ne := fun h tp dd its n sl X htp => by
    refine Bool.eq_false_iff.mpr fun q => ?_
    have e : C = tp := Value.ref.inj (beq_iff_eq.mp q)
    subst e
    have hs := c.here
    unfold PySem.W.clsIn at hs
    split at hs
    · rename_i ho
      have z := X _ _ ho
      rw [htp] at z
      cases z
    · cases hs
  ca := fun X ⟨o, od, I⟩ k => EX.class_at X I c.ga c.hk c.be c.ob (EX.find_class c.here c.ca c.gs c.tk) k
def IsX (H : Hp) (a C : Addr) : Prop := ∃ od new, H a = some (XHO a C od new) ∧ ∀ d, od = some d → ∃ fs, H d = some (DHO d fs)
theorem IsX.inst {P : Program} {w : World} {H : Hp} {h : Heap} {a C : Addr} (x : IsX H a C) (ok : HOk P w H h) : ∃ o od, PySem.W.InstAt h a o C od := by
  obtain ⟨od, new, ea, hd⟩ := x
  obtain ⟨vs, sl, e, _⟩ := ok.xo ea
  cases od with
  | none => exact ⟨_, none, e, rfl, rfl, trivial⟩
  | some d =>
    obtain ⟨fs, ed⟩ := hd d rfl
    obtain ⟨_, mA, ⟨o, es, ep, ho, _⟩, _⟩ := ok.do_ ed
    exact ⟨_, some o, e, rfl, rfl, ho⟩
theorem valsRefs : ∀ {ds : List Addr} {us : List Value}, Vals (ds.map V.ref) us → us = ds.map Value.ref
  | [], _, .nil => rfl
  | d :: ds, _, .cons r t => by rw [valsRefs t, show _ = Value.ref d from r]; rfl
section
variable {X : Cx}
theorem call_isiX : CallR X (.builtin "isinstance") (fun xs H Q => ∃ a C D b, xs = [.ref a, .ref D] ∧ IsX H a C ∧ XCls X.K C ∧ PySem.W.kitOne X.K (.ref C) (.ref D) = some b ∧ Q (.bl b) H) := by
  intro pins s σ H xs us Q I r h
  obtain ⟨a, C, D, b, rfl, ix, c, e, q⟩ := h
  obtain ⟨u, w', rfl, rx, ry⟩ := vals2 r
  cases rx; cases ry
  exact PySem.W.kia_one (kitx_exc c) I.kIn (ix.inst I.hok) e (fun z => nomatch z) fun tk => ⟨.bl b, H, I.tok _, rfl, q⟩
theorem call_isiXB : CallR X (.builtin "isinstance") (fun xs H Q => ∃ a C T b, xs = [.ref a, .ty T] ∧ IsX H a C ∧ XCls X.K C ∧ PySem.W.kitOne X.K (.ref C) (.type T) = some b ∧ Q (.bl b) H) := by
  intro pins s σ H xs us Q I r h
  obtain ⟨a, C, T, b, rfl, ix, c, e, q⟩ := h
  obtain ⟨u, w', rfl, rx, ry⟩ := vals2 r
  cases rx; cases ry
  exact PySem.W.kia_one (kitx_exc c) I.kIn (ix.inst I.hok) e (fun z => nomatch z) fun tk => ⟨.bl b, H, I.tok _, rfl, q⟩
theorem call_isiXT : CallR X (.builtin "isinstance") (fun xs H Q => ∃ (a C p : Addr) (ds : List Addr) (b : Bool), xs = [.ref a, .ref p] ∧ H p = some (.tup (ds.map V.ref)) ∧ IsX H a C ∧ XCls X.K C ∧ PySem.W.kitAny X.K (.ref C) (ds.map Value.ref) = some b ∧ Q (.bl b) H) := by
  intro pins s σ H xs us Q I r h
  obtain ⟨a, C, p, ds, b, rfl, hp, ix, c, e, q⟩ := h
  obtain ⟨u, w', rfl, rx, ry⟩ := vals2 r
  cases rx; cases ry
  obtain ⟨_, its, rv, o, ho, hc, n, hd⟩ := (show ObjOk X.prog X.w H s.heap p (.tup (ds.map V.ref)) from I.hok p _ hp)
  rw [valsRefs rv] at hd
  obtain ⟨oc, od, dt, sl⟩ := o
  obtain rfl : oc = _ := hc
  obtain rfl : dt = _ := hd
  exact PySem.W.kia_tup (kitx_exc c) I.kIn (ix.inst I.hok) ho e (fun z => nomatch z) fun tk => ⟨.bl b, H, I.tok _, rfl, q⟩
end
end L2
namespace EX
open PySem
def QV (h : Heap) (vs : Array Value) : Prop := vs[1]? = some .none ∨ ∃ T oT ts, vs[1]? = some (.ref T) ∧ h.get? T = some oT ∧ oT.data = .fields ts ∧ ts[3]? = some .none
section
variable {M : Model} {A : Around} {E : Value → Shared → Prop} {s : Shared} {env : Env} {outer : List Env} {base : Heap} {L e T : Addr} {oe : Obj} {vs : Array Value} {Q : Unit → Shared → Prop}
theorem note_any (hfr : A.frames = some (env :: outer)) (hl : s.heap.FunFrames base (env :: outer)) (hf : env.frame = some L)
    (he : s.heap.get? e = some oe) (hd : oe.data = .fields vs) (hq : QV s.heap vs)
    (h : ∀ h' T, Noted (env :: outer) e T oe s.heap h' → Q () { s with heap := h' }) : wpAny M A (noteFrame (.ref e) env) Q E s := by
  rcases hq with h1 | ⟨T0, oT, ts, h1, hT, hdT, h3⟩
  · exact note_new hfr hl hf he hd h1 h
  have hz : 1 < vs.size := (Array.getElem?_eq_some_iff.mp h1).1
  have hne := frames_ne hl he hd
  unfold noteFrame
  simp only [hf]
  refine wpAny_bind (wpAny_field he hd h1 ?_)
  rw [if_pos (show (Value.ref T0 != Value.none) = true from by simp)]
  refine wpAny_bind (wpAny_field hT hdT h3 ?_)
  rw [if_neg (show ¬ ((Value.none == rawInt L) = true) from by simp [rawInt])]
  refine wpAny_bind (wpAny_setField hT hdT (Array.getElem?_eq_some_iff.mp h3).1 ?_)
  rw [Heap.update_setField_same _ _ _ _ _ _ hT hdT h3]
  refine wpAny_bind (wpAny_frameOf_fun hfr hl hf fun h₁ sl => wpAny_bind (wpAny_entryPlaceOf fun pl hpl => ?_))
  unfold EntryCells.newEntry newFields
  refine wpAny_bind (wpAny_newObj_type ?_ (hpl.sizeOk5 _ _ _ _ _))
  have e1 : h₁.get? e = some oe := (sl.2.1 e hne).trans he
  have z1 : h₁.objs.size = s.heap.objs.size := sl.1
  refine wpAny_setField (Heap.get?_push_of_some _ e1) hd hz (h _ h₁.objs.size ⟨fun b o hb hn q => ?_, fun b o hb q => ?_, ?_, Nat.le_of_eq z1.symm, ?_⟩)
  · exact (Heap.get?_update_other _ _ (Ne.symm hb)).trans (Heap.get?_push_of_some _ ((sl.2.1 b hn).trans q))
  · obtain ⟨x, q'⟩ := sl.2.2 b o q
    exact ⟨x, (Heap.get?_update_other _ _ (Ne.symm hb)).trans (Heap.get?_push_of_some _ q')⟩
  · exact Heap.get?_update_self _ (Heap.get?_push_of_some _ e1) (Obj.isFreed_of_fields (Obj.data_mapFields hd _))
  · refine ⟨_, _, (Heap.get?_update_other _ _ (Nat.ne_of_lt (Heap.lt_size e1))).trans (Heap.get?_push_size h₁ rfl), rfl, ?_⟩
    simp only [List.size_toArray, List.length_append, List.length_cons, List.length_nil]
    omega
theorem leave_at (hfr : A.frames = some (env :: outer)) (hl : s.heap.FunFrames base (env :: outer)) (hf : env.frame = some L)
    (he : s.heap.get? e = some oe) (hd : oe.data = .fields vs) (hq : QV s.heap vs)
    (h : ∀ h1 h2 T, Noted (env :: outer) e T oe s.heap h1 → (∀ b, b ≠ T → h2.get? b = h1.get? b) → QV h2 (vs.setIfInBounds 1 (.ref T)) → Q () { s with heap := h2 }) : wpAny M A (leaving env (.ref e)) Q E s := by
  have hz : 1 < vs.size := by
    rcases hq with h1 | ⟨_, _, _, h1, _⟩
    · exact (Array.getElem?_eq_some_iff.mp h1).1
    · exact (Array.getElem?_eq_some_iff.mp h1).1
  unfold leaving
  refine wpAny_bind (note_any hfr hl hf he hd hq fun g1 T N => ?_)
  obtain ⟨oT, ts, hT, hdT, hz3⟩ := N.tb
  have v1 : (vs.setIfInBounds 1 (.ref T))[1]? = some (.ref T) := by simp [hz]
  refine wpAny_setFlight_none (s := { s with heap := g1 }) N.exc (Obj.data_mapFields hd _) v1 hT hdT hz3 (h g1 _ T N (fun b hb => Heap.get?_update_other _ _ (Ne.symm hb)) (.inr ⟨T, _, _, v1, Heap.get?_update_self _ hT (Obj.isFreed_of_fields (Obj.data_mapFields hdT _)), Obj.data_mapFields hdT _, ?_⟩))
  simp [hz3]
end
end EX
namespace L2
open PySem PySem.Spec PyProof.Rows
def QX (h : Heap) (a : Addr) : Prop := ∃ oe vs, h.get? a = some oe ∧ oe.data = .fields vs ∧ EX.QV h vs
theorem upd_self {H : Hp} {a : Addr} {o : HO} (e : H a = some o) : upd H a o = H := by
  funext b
  by_cases z : b = a
  · subst z; rw [upd_same, e]
  · rw [upd_ne z]
abbrev XWT := St → Hp → Addr → Addr → Option Addr → Prop
def CX1 (P : Program) (w : World) : CXT := fun outer H s E v s' => ∃ a H' C od, v = .ref a ∧ s'.os = s.os ∧ AllBare s'.gens ∧ Un (frs outer) [] H H' s.heap s'.heap ∧ HOk P w H' s'.heap ∧ H' a = some (XHO a C od false) ∧ QX s'.heap a ∧ E (.ref C) od H'
def XW (X : Cx) (W : XWT) : Prop := ∀ (pins : List (Addr × Obj)) (σ : St) (H : Hp) (s : Shared) (a C : Addr) (od : Option Addr) (new : Bool), Inv X pins σ H s → H a = some (XHO a C od new) → QX s.heap a → W σ (upd H a (XHO a C od false)) a C od → X.xe (.ref a) s
section
variable {X : Cx} {pins : List (Addr × Obj)} {σ : St} {H : Hp} {s s' : Shared}
theorem leave_ok {M : Model} {Q : Unit → Shared → Prop} {E : Value → Shared → Prop} {a C : Addr} {od : Option Addr} {new : Bool} (I : Inv X pins σ H s) (ea : H a = some (XHO a C od new)) (q : QX s.heap a) (hst : X.stack = X.env :: X.outer) (hfr : X.env.frame = some X.env.locals)
    (k : ∀ h', Inv X pins σ (upd H a (XHO a C od false)) { s with heap := h' } → QX h' a → Q () { s with heap := h' }) : wpAny M X.A (leaving X.env (.ref a)) Q E s := by
  obtain ⟨oe, vs, he, hd, qv⟩ := q
  obtain ⟨vs', sl, hx, z1, _⟩ := I.hok.xo ea
  rw [he] at hx
  cases hx
  cases hd
  have fr : X.A.frames = some (X.env :: X.outer) := by rw [I.ok.frames, hst]
  have hl : s.heap.FunFrames X.base (X.env :: X.outer) := by rw [← hst]; exact I.stack
  refine EX.leave_at fr hl hfr he rfl qv fun g1 g2 T N k2 qv2 => ?_
  have nT : a ≠ T := fun z => Nat.lt_irrefl _ (Nat.lt_of_lt_of_le (Heap.lt_size (z ▸ he)) N.new)
  have e2 : g2.get? a = some ⟨.ref C, od, .fields (vs.setIfInBounds 1 (.ref T)), sl⟩ := (k2 a nT).trans N.exc
  exact k g2 (I.noted (T := T) ea (by rw [hst]; exact N) k2 ⟨_, sl, e2, by simp [z1], fun z => nomatch z⟩) ⟨_, _, e2, rfl, qv2⟩
theorem CX1.inv {E : XK} {v : Value} (I : Inv X pins σ H s) (h : CX1 X.prog X.w X.stack H s E v s') : ∃ a H' C od, v = .ref a ∧ Inv X pins σ H' s' ∧ H' a = some (XHO a C od false) ∧ QX s'.heap a ∧ E (.ref C) od H' := by
  obtain ⟨a, H', C, od, rfl, os, bare, un, hok, ea, q, e⟩ := h
  exact ⟨a, H', C, od, rfl, I.call' (ch := []) os un hok bare (fun b z => absurd z (by simp)), ea, q, e⟩
end
theorem xw_fn {P : Program} {w : World} {K : PySem.W.Frag} {mg : Str → Option Value} {base : Heap} {N : List Str} {qual : Str} {scope : Scope} {f : Addr} {cd : Value} {A : Around} {outer : List Env} {s : Shared} {H : Hp} {E : XK} :
    XW (cxOf (CX1 P w) P w K mg base N qual scope f cd A outer s H E) (fun _ H' _ C od => E (.ref C) od H') := by
  intro pins σ H' s' a C od new I ea q e
  refine leave_ok (X := cxOf (CX1 P w) P w K mg base N qual scope f cd A outer s H E) I ea q rfl rfl fun h' J q' => ?_
  exact ⟨a, _, C, od, rfl, J.os, J.bare, J.base, J.hok, upd_same, q', e⟩
section
variable {P : Program} {w : World} {K : PySem.W.Frag} {mg : Str → Option Value} {base : Heap}
theorem Fun.okX {x qual : Str} {st : Stmt} {f : Addr} {fd : FuncData} {N ps : List Str} {k : Nat} {sp : Sp} (F : Fun K x qual st f fd) (S : FnScope N ps (defScope st)) (len : ∀ vs H Q E, sp vs H Q E → vs.length = ps.length)
    (hbody : ∀ (cdv : Value) (A : Around) (outer : List Env) (s : Shared) (H : Hp) (vs : List V) (Q : VK) (E : XK), Room k (A.deeper (envOfC qual (defScope st) s.heap.objs.size f cdv)) → sp vs H Q E →
      ∃ t, PSs (cxOf (CX1 P w) P w K mg base N qual (defScope st) f cdv A outer s H E) (defBody st) t ∧ t { nx := fun _ H' => Q .non H', rt := Q } (start N vs) H) : FnOk P w K mg base (CX1 P w) (k + 1) f fd ps sp := by
  obtain ⟨oc, od, kV, doc, pm, an, cdv, ct, osl, rfl, lk, hcd⟩ := F.ex
  exact fn_of lk hcd S len fun A outer s H vs Q E hr hsp => hbody cdv A outer s H vs Q E hr hsp
end
def FnX (P : Program) (w : World) (K : PySem.W.Frag) (mg : Str → Option Value) (base : Heap) (k : Nat) (x : Str) (ps : List Str) (sp : Sp) : Prop :=
  ∃ f fd, FnOk P w K mg base (CX1 P w) k f fd ps sp ∧ Binds K fd ps [] ∧ PySem.W.keepIn K (.ref f) = true ∧ mg x = some (.ref f)
def tCallX (sp : Sp) (W : XWT) (t : TA) : TE := fun σ H Q => t σ H fun vs H1 => sp vs H1 Q fun Cv od H' => ∀ a C, Cv = .ref C → H' a = some (XHO a C od false) → W σ H' a C od
def tRaiseX (K : PySem.W.Frag) (W : XWT) (te : TE) : TS := fun _ σ H => te σ H fun v H1 => ∃ a C od, v = .ref a ∧ H1 a = some (XHO a C od true) ∧ XCls K C ∧ W σ (upd H1 a (XHO a C od false)) a C od
section
variable {X : Cx} {W : XWT} {k : Nat} {x : Str} {ps : List Str} {sp : Sp} {p pos : Pos} {e : Expr} {es : List Expr} {t : TA} {te : TE}
theorem pe_callX (G : FnX X.prog X.w X.K X.mg X.base k x ps sp) (hw : XW X W) (hr : Room k X.A) (hg : Gl X x) (ha : PA X (e :: es) t) (hdb : (x == ("__debug__" : Str)) = false := by decide)
    (he : starEach (e :: es) X.env = (false, eval e X.env) :: starEach es X.env := by rfl) (hpl : (backTo pos (starEach es X.env)).any (·.1) = false := by rfl) :
    PE X (.Call (.Name x p) (e :: es) [] pos) (tCallX sp W t) := by
  obtain ⟨f, fd, F, hb, kp, m⟩ := G
  intro pins s σ H Q I h
  refine wpAny_Call_Name_kw (ld_glob I hg m ?_ hdb)
  refine PySem.W.callWith_K (h₀ := X.base) I.ok.mod.kin kp (thn (ha pos pins s σ H _ I h) fun us s1 ⟨vs, H1, I1, r, q⟩ => ⟨I1.kIn, ?_⟩) he hpl
  have hl : (us ++ []).length = ps.length := by rw [List.append_nil, ← r.length]; exact F.len _ _ _ _ q
  have bb := hb s1 us I1.kIn hl
  rw [List.append_nil] at bb
  refine wpAny_call (codeAny_mono (F.run X.A X.stack s1 H1 ⟨us, []⟩ us vs Q _ hr I1.env0 bb r q) fun r s' hq => ?_)
  cases r with
  | error v =>
    have hq : CX1 X.prog X.w X.stack H1 s1 (fun Cv od H' => ∀ a C, Cv = .ref C → H' a = some (XHO a C od false) → W σ H' a C od) v s' := hq
    obtain ⟨a, H', C, od, rfl, I', ea, qx, w'⟩ := CX1.inv I1 hq
    exact hw pins σ H' s' a C od false I' ea qx (by rw [upd_self ea]; exact w' a C rfl ea)
  | ok fl =>
    cases fl with
    | ret u => exact I1.after hq
    | next => exact False.elim hq
    | brk => exact False.elim hq
    | cont => exact False.elim hq
theorem ps_raiseX (hw : XW X W) (he : PE X e te) (hc : X.calm = true) : PS X (.Raise (some e) none pos) (tRaiseX X.K W te) := by
  intro pins s σ H D I h
  rw [arm_exec_Raise]
  refine wpAny_bind (wpAny_standAt (EX.raise_at (I.ok.hd hc) ?_))
  refine wpAny_bind (thn (he pins s σ H _ I h) fun v s1 ⟨x, H1, I1, rx, a, C, od, ex, ea, c, q⟩ => wpAny_bind (wpAny_standAt (wpAny_pure ?_)))
  subst ex
  obtain rfl : v = Value.ref a := rx
  obtain ⟨vs, sl, hx, z1, z2⟩ := I1.hok.xo ea
  exact ⟨a, C, _, vs, rfl, hx, rfl, rfl, z2 rfl, PySem.W.looks_mroIn I1.kIn c.be, PySem.W.looks_typeIn I1.kIn c.ty, hw pins σ H1 s1 a C od true I1 ea ⟨_, _, hx, rfl, .inl (z2 rfl)⟩ q⟩
end
def Cx.tx (X : Cx) (pn : List (Addr × Obj)) (W : XWT) : Cx := { X with pn := pn, xe := fun v s' => ∃ e σ' H' C od new, v = .ref e ∧ Inv { X with pn := pn } [] σ' H' s' ∧ H' e = some (XHO e C od new) ∧ QX s'.heap e ∧ W σ' (upd H' e (XHO e C od false)) e C od }
section
variable {X : Cx} {pins pn : List (Addr × Obj)} {σ : St} {H : Hp} {s : Shared} {e : Addr} {W : XWT}
theorem Inv.toTx (I : Inv { X with pn := pn } pins σ H s) : Inv (X.tx pn W) pins σ H s := I.wish _
theorem Inv.ofTx (I : Inv (X.tx pn W) pins σ H s) : Inv { X with pn := pn } pins σ H s := (show Inv ({ X with pn := pn } : Cx) pins σ H s from Inv.unwish (X := { X with pn := pn }) I)
theorem xw_tx : XW (X.tx pn W) W := by
  intro pins σ H s a C od new I ea q w'
  exact ⟨a, σ, H, C, od, new, rfl, I.ofTx.pins_of fun p hp => absurd hp (by simp), ea, q, w'⟩
end
def tTryX (K : PySem.W.Frag) (D0 : Addr) (W : XWT) (i : Nat) (tb : List (Addr × Obj) → TS) (th : Addr → TS) : TS := fun D σ H => (∀ pn, tb pn D σ H) ∧ ∀ σ' H' e C od, H' e = some (XHO e C od false) → W σ' H' e C od →
  PySem.W.mroIn K C (.ref D0) = some true ∧ th e (D.less i) (σ'.set i (some (.ref e))) H'
section
variable {X : Cx}
theorem ps_tryX (W : XWT) (i : Nat) {D0 : Addr} {n cls : Str} {body suite : List Stmt} {b₀ : Stmt} {p hp pos : Pos} {tb : List (Addr × Obj) → TS} {th : Addr → TS} (hb : ∀ pn, PSs (X.tx pn W) body (tb pn)) (hh : ∀ e, PSs (X.ec e) (b₀ :: suite) (th e)) (hst : X.stack = X.env :: X.outer)
    (hfr : X.env.frame = some X.env.locals) (hg : Gl X cls) (hm : X.mg cls = some (.ref D0)) (dc : XCls X.K D0) (di : (PySem.W.clsIn X.K D0).isSome = true) (hN : X.N.Nodup) (hi : X.N[i]? = some n) (hx : X.env.scope.names.lookup n = some .local)
    (hdb : (cls == ("__debug__" : Str)) = false := by decide) :
    PS X (.Try body [.ExceptHandler (some (.Name cls p)) (some n) (b₀ :: suite) hp] [] [] pos) (tTryX X.K D0 W i tb th) := by
  intro pins s σ H D I ⟨h1, h2⟩
  refine wpAny_Try_except (wpAny_mono (hb (X.pn ++ pins) [] s σ H D I.toPn.toTx (h1 _)) (fun f s1 q => ?_) fun v s1 q => ?_)
  · cases f with
    | next => obtain ⟨σ', H', I', q⟩ := q; exact wpAny_execs_nil ⟨σ', H', I'.ofTx.ofPn, q⟩
    | ret u => obtain ⟨v, σ', H', I', r, q⟩ := q; exact ⟨v, σ', H', I'.ofTx.ofPn, r, q⟩
    | brk => obtain ⟨σ', H', I', q⟩ := q; exact ⟨σ', H', I'.ofTx.ofPn, q⟩
    | cont => obtain ⟨σ', H', I', q⟩ := q; exact ⟨σ', H', I'.ofTx.ofPn, q⟩
  · obtain ⟨e, σ', H', C, od, new, rfl, I1, ea, qx, hw⟩ := q
    have I1 : Inv X pins σ' H' s1 := I1.ofPn
    obtain ⟨vs, sl, hx1, z1, _⟩ := I1.hok.xo ea
    obtain ⟨oe', vs', he', hd', qv⟩ := qx
    rw [hx1] at he'
    cases he'
    cases hd'
    obtain ⟨hm1, hth⟩ := h2 σ' _ e C od upd_same hw
    have fr : X.A.frames = some (X.env :: X.outer) := by rw [I1.ok.frames, hst]
    have hl : s1.heap.FunFrames X.base (X.env :: X.outer) := by rw [← hst]; exact I1.stack
    refine EX.note_any fr hl hfr hx1 rfl qv fun g1 T N => ?_
    have e1 : g1.get? e = some ⟨.ref C, od, .fields (vs.setIfInBounds 1 (.ref T)), sl⟩ := N.exc
    have v1 : (vs.setIfInBounds 1 (.ref T))[1]? = some (.ref T) := by simp [z1]
    obtain ⟨oT, ts, hT, hdT, hz3⟩ := N.tb
    refine EX.flight_off (s := { s1 with heap := g1 }) e1 rfl v1 hT hdT hz3 fun g2 k2 tb2 => ?_
    have nT : ∀ b o, s1.heap.get? b = some o → b ≠ T := fun b o q z => Nat.lt_irrefl _ (Nat.lt_of_lt_of_le (Heap.lt_size (z ▸ q)) N.new)
    have e2 : g2.get? e = some ⟨.ref C, od, .fields (vs.setIfInBounds 1 (.ref T)), sl⟩ := (k2 e (nT _ _ hx1)).trans e1
    have I2 : Inv X pins σ' (upd H' e (XHO e C od false)) { s1 with heap := g2 } := I1.noted (T := T) ea (by rw [hst]; exact N) k2 ⟨_, sl, e2, by simp [z1], fun z => nomatch z⟩
    refine EX.handle_at (D := D0) (C := C) (ld_glob (X := X.ec e) I2.toEc hg hm ⟨rfl, PySem.W.looks_typeIn I2.kIn dc.ty, is_type_in I2.kIn di, PySem.W.looks_mroIn I2.kIn dc.be, EX.type_at e2 rfl, PySem.W.looks_mroIn I2.kIn hm1, ?_⟩ hdb)
    obtain ⟨oT', ts', hT', hdT', hz'⟩ := tb2
    refine EX.flight_off (s := { s1 with heap := g2 }) e2 rfl v1 hT' hdT' hz' fun g3 k3 _ => ?_
    have hTn : upd H' e (XHO e C od false) T = none := by
      rw [upd_ne (Ne.symm (nT _ _ hx1))]; exact I1.hok.fresh N.new
    have I3 : Inv X pins σ' (upd H' e (XHO e C od false)) { s1 with heap := g3 } := by
      refine Inv.turned (s := { s1 with heap := g2 }) (it := T) (h' := g3) (t' := s1.toks) I2 (fun b o hb q => (k3 b hb).trans q) hTn (Nat.ne_of_gt (Nat.lt_of_lt_of_le I1.lt N.new)) (.inr (Nat.le_trans I1.sz N.new)) (fun y c q => ?_) fun y hy => ?_
      · obtain ⟨v, o, ho, _⟩ := I1.cell y c q
        exact nT c o ho
      · exact nT y.1 y.2 (I1.pin y hy).1
    refine store_ok (X := X.ec e) I3.toEc hN hi (.inl hx) (show RelV (.ref e) (.ref e) from rfl) (fun s4 I4 => ?_) (.inr hx)
    refine wpAny_mono (hh e pins s4 _ _ (D.less i) I4 hth) (fun f s5 q => ?_) fun _ _ z => z
    cases f with
    | next => obtain ⟨σ5, H5, I5, q⟩ := q; exact gone_ok (I5.ofEc I1.ok) hN hi hx fun s6 I6 => ⟨_, H5, I6, q⟩
    | ret u => obtain ⟨v, σ5, H5, I5, r, q⟩ := q; exact gone_ok (I5.ofEc I1.ok) hN hi hx fun s6 I6 => ⟨v, _, H5, I6, r, q⟩
    | brk => obtain ⟨σ5, H5, I5, q⟩ := q; exact gone_ok (I5.ofEc I1.ok) hN hi hx fun s6 I6 => ⟨_, H5, I6, q⟩
    | cont => obtain ⟨σ5, H5, I5, q⟩ := q; exact gone_ok (I5.ofEc I1.ok) hN hi hx fun s6 I6 => ⟨_, H5, I6, q⟩
end
end L2
namespace L2
open PySem PySem.Spec PyProof.Rows
def tChain3 (r r' r2 : R2) (ta tb tc td : TE) : TE := fun σ H Q => ta σ H fun x H1 => tb σ H1 fun y H2 => r x y H2 fun z H3 => ∃ k, z = .bl k ∧
  (if k = true then tc σ H3 fun w' H4 => r' y w' H4 fun z' H5 => ∃ k', z' = .bl k' ∧ (if k' = true then td σ H5 fun w2 H6 => r2 w' w2 H6 Q else Q (.bl false) H5) else Q (.bl false) H3)
theorem pe_chain3 {X : Cx} {a b c d : Expr} {pos : Pos} {ta tb tc td : TE} {op op' op2 : CmpOp} {r r' r2 : R2} (ho : OpR X (compareOp op) r) (ho' : OpR X (compareOp op') r') (ho2 : OpR X (compareOp op2) r2) (ha : PE X a ta) (hb : PE X b tb) (hc : PE X c tc) (hd : PE X d td)
    (hm : lastMarks [op, op', op2] [b, c, d] = false := by with_unfolding_all rfl) : PE X (.Compare a [op, op', op2] [b, c, d] pos) (tChain3 r r' r2 ta tb tc td) := by
  intro pins s σ H Q I h
  refine Compare_chain (thn (ha pins s σ H _ I h) fun v s1 ⟨x, H1, I1, r1, q1⟩ => chain_link (thn (hb pins s1 σ H1 _ I1 q1) fun u s2 ⟨y, H2, I2, rr, q2⟩ =>
    thn (ho pins s2 σ H2 x y v u _ I2 r1 rr q2) fun e s3 ⟨z, H3, I3, r3, k, ez, q3⟩ => ?_)) hm
  subst ez
  cases r3
  refine wpAny_truthy_bool ?_
  cases k with
  | false => exact ite_ff ⟨.bl false, H3, I3, rfl, q3⟩
  | true =>
    refine ite_tt (chain_link (thn (hc pins s3 σ H3 _ I3 q3) fun w' s4 ⟨z', H4, I4, r4, q4⟩ => thn (ho' pins s4 σ H4 y z' u w' _ I4 rr r4 q4) fun e2 s5 ⟨z2, H5, I5, r5, k2, ez2, q5⟩ => ?_))
    subst ez2
    cases r5
    refine wpAny_truthy_bool ?_
    cases k2 with
    | false => exact ite_ff ⟨.bl false, H5, I5, rfl, q5⟩
    | true => exact ite_tt (chain_last (thn (hd pins s5 σ H5 _ I5 q5) fun w2 s6 ⟨z6, H6, I6, r6, q6⟩ => ho2 pins s6 σ H6 z' z6 w' w2 Q I6 r4 r6 q6))
end L2
namespace K10
open PySem PySem.Spec PyProof.Rows L2 K01
theorem b_len : bootBuiltins "len" = some (.builtin "len") := by decide +kernel
theorem b_ord : bootBuiltins "ord" = some (.builtin "ord") := by decide +kernel
theorem b_max : bootBuiltins "max" = some (.builtin "max") := by decide +kernel
theorem b_sorted : bootBuiltins "sorted" = some (.builtin "sorted") := by decide +kernel
theorem b_isinstance : bootBuiltins "isinstance" = some (.builtin "isinstance") := by decide +kernel
theorem b_tuple : bootBuiltins "tuple" = some (.type "tuple") := by decide +kernel
theorem b_set : bootBuiltins "set" = some (.type "set") := by decide +kernel
theorem b_int : bootBuiltins "int" = some (.type "int") := by decide +kernel
theorem b_str : bootBuiltins "str" = some (.type "str") := by decide +kernel
theorem b_bool : bootBuiltins "bool" = some (.type "bool") := by decide +kernel
structure Bn (mg : Str → Option Value) : Prop where
  len : mg "len" = none
  ord : mg "ord" = none
  max : mg "max" = none
  sorted : mg "sorted" = none
  isinstance : mg "isinstance" = none
  tuple : mg "tuple" = none
  list : mg "list" = none
  set : mg "set" = none
  int : mg "int" = none
  str : mg "str" = none
  bool : mg "bool" = none
  range : mg "range" = none
  zip : mg "zip" = none
  reversed : mg "reversed" = none
  enumerate : mg "enumerate" = none
  sum : mg "sum" = none
structure Cn (mg : Str → Option Value) : Prop where
  LETTERS : ∃ t, mg "LETTERS" = some (.str LET t)
  SIGNS : ∃ t, mg "SIGNS" = some (.str SGN t)
  GREATEST_WHOLE : ∃ t, mg "GREATEST_WHOLE" = some (.int 1000000000000000000 t)
  GREATEST_NUMBER : ∃ t, mg "GREATEST_NUMBER" = some (.int 999 t)
  LONGEST_TEXT : ∃ t, mg "LONGEST_TEXT" = some (.int 200 t)
  LONGEST_NAME : ∃ t, mg "LONGEST_NAME" = some (.int 8 t)
  DEEPEST : ∃ t, mg "DEEPEST" = some (.int 100 t)
  GREATEST_SIZE : ∃ t, mg "GREATEST_SIZE" = some (.int 1000000 t)
theorem iteN {b : Bool} {A B : Prop} (h : b = false) (q : B) : if b = true then A else B := by subst h; exact iteF q
theorem iteY {b : Bool} {A B : Prop} (h : b = true) (q : A) : if b = true then A else B := by subst h; exact iteT q
theorem alwaysT {σ : L2.St} {H : Hp} {A B : Hp → Prop} (h : A H) : tAlways σ H fun ok H3 => if ok = true then A H3 else B H3 := by
  show if true = true then A H else B H
  exact iteT (A := A H) (B := B H) h
end K10
namespace K10
open PySem PySem.Spec PyProof.Rows L2 K01
abbrev s_law_feed : Stmt := top 33
abbrev N_law_feed : List Str := ["_law_script", "_law_k", "_law_cell"]
theorem sc_law_feed : FnScope N_law_feed ["_law_script", "_law_k"] (defScope s_law_feed) := ⟨rfl, rfl, rfl, by decide +kernel, rfl, by decide +kernel, by decide +kernel⟩
abbrev s_law_draw : Stmt := top 34
abbrev N_law_draw : List Str := ["_law_feed_here", "_law_many", "_law_figure", "_law_number_here"]
theorem sc_law_draw : FnScope N_law_draw ["_law_feed_here", "_law_many"] (defScope s_law_draw) := ⟨rfl, rfl, rfl, by decide +kernel, rfl, by decide +kernel, by decide +kernel⟩
abbrev s_law_name : Stmt := top 35
abbrev N_law_name : List Str := ["_law_feed_here", "_law_words", "_law_letters"]
theorem sc_law_name : FnScope N_law_name ["_law_feed_here"] (defScope s_law_name) := ⟨rfl, rfl, rfl, by decide +kernel, rfl, by decide +kernel, by decide +kernel⟩
abbrev s_law_number : Stmt := top 36
abbrev N_law_number : List Str := ["_law_feed_here", "_law_some"]
theorem sc_law_number : FnScope N_law_number ["_law_feed_here"] (defScope s_law_number) := ⟨rfl, rfl, rfl, by decide +kernel, rfl, by decide +kernel, by decide +kernel⟩
abbrev s_law_whole : Stmt := top 37
abbrev N_law_whole : List Str := ["_law_feed_here", "_law_some", "_law_number_here"]
theorem sc_law_whole : FnScope N_law_whole ["_law_feed_here"] (defScope s_law_whole) := ⟨rfl, rfl, rfl, by decide +kernel, rfl, by decide +kernel, by decide +kernel⟩
abbrev s_law_text : Stmt := top 38
abbrev N_law_text : List Str := ["_law_feed_here", "_law_many", "_law_signs", "_law_start", "_law_step"]
theorem sc_law_text : FnScope N_law_text ["_law_feed_here"] (defScope s_law_text) := ⟨rfl, rfl, rfl, by decide +kernel, rfl, by decide +kernel, by decide +kernel⟩
def spFeed (K : PySem.W.Frag) : Sp := fun vs H Q _ => ∃ (a : Addr) (ns : List Int) (k : Int), vs = [.ref a, .int k] ∧ SqL K H a (ns.map V.int) ∧ ns.length ≤ 63 ∧ 0 ≤ k ∧ ∀ (l : Addr) (H' : Hp), Same H H' → H l = none → Feed H' l → Q (.ref l) H'
def spDraw : Sp := fun vs H Q _ => ∃ (l : Addr) (m : Int), vs = [.ref l, .int m] ∧ Feed H l ∧ 0 < m ∧ m < 1073741824 ∧ ∀ (r : Int) (H' : Hp), 0 ≤ r → r < m → Step l H H' → Q (.int r) H'
def nameOk (x : Str) : Prop := 1 ≤ x.length ∧ x.length ≤ 8 ∧ ∀ c ∈ x.cps.toList, 97 ≤ c ∧ c ≤ 122
def textOk (x : Str) : Prop := x.length ≤ 200 ∧ gdS x
def spStrD (p : Str → Prop) : Sp := fun vs H Q _ => ∃ l : Addr, vs = [.ref l] ∧ Feed H l ∧ ∀ (x : Str) (H' : Hp), p x → Step l H H' → Q (.str x) H'
def spIntD (p : Int → Prop) : Sp := fun vs H Q _ => ∃ l : Addr, vs = [.ref l] ∧ Feed H l ∧ ∀ (n : Int) (H' : Hp), p n → Step l H H' → Q (.int n) H'
instance (x : Str) : Decidable (nameOk x) := inferInstanceAs (Decidable (_ ∧ _ ∧ _))
theorem words_ok : ∀ x ∈ (["a", "ab", "abc", "z", "zz", "abcdefgh", "zzzzzzzz", "b", "ba", "row"] : List Str), nameOk x := by decide +kernel
theorem let_ok : ∀ c ∈ (Str.cps "abcdefghijklmnopqrstuvwxyz").toList, 97 ≤ c ∧ c ≤ 122 := by decide +kernel
instance (c : Nat) : Decidable (gdC c) := inferInstanceAs (Decidable (_ ∧ _ ∧ _))
theorem signs_ok : ∀ c ∈ (((((" !#$&'()*+,-./0123456789:;<=>?\x40[]^_{|}~" : Str) ++ ("\"" : Str)) ++ ("\\" : Str)) ++ ("`" : Str)) ++ ("ABCDEFGHIJKLMNOPQRSTUVWXYZabcdefghijklmnopqrstuvwxyz" : Str)).cps.toList, gdC c := by decide +kernel
theorem pickS (ss : List Str) {r : Int} (h0 : 0 ≤ r) (h1 : r < ss.length) : ∃ x, x ∈ ss ∧ atI (ss.map V.str) r = some (.str x) := by
  have hj : r.toNat < ss.length := by omega
  refine ⟨ss[r.toNat], List.getElem_mem hj, ?_⟩
  have z : atI (ss.map V.str) ((r.toNat : Nat) : Int) = some (.str ss[r.toNat]) := atI_nat (by rw [List.getElem?_map, List.getElem?_eq_getElem hj]; rfl)
  rw [show ((r.toNat : Nat) : Int) = r by omega] at z
  exact z
theorem pickI (ns : List Int) {r : Int} (h0 : 0 ≤ r) (h1 : r < ns.length) : ∃ n, n ∈ ns ∧ atI (ns.map V.int) r = some (.int n) := by
  have hj : r.toNat < ns.length := by omega
  refine ⟨ns[r.toNat], List.getElem_mem hj, ?_⟩
  have z : atI (ns.map V.int) ((r.toNat : Nat) : Int) = some (.int ns[r.toNat]) := atI_nat (by rw [List.getElem?_map, List.getElem?_eq_getElem hj]; rfl)
  rw [show ((r.toNat : Nat) : Int) = r by omega] at z
  exact z
theorem pickC (cs : List Nat) {r : Int} (h0 : 0 ≤ r) (h1 : r < cs.length) : ∃ c, c ∈ cs ∧ atI cs r = some c := by
  have hj : r.toNat < cs.length := by omega
  refine ⟨cs[r.toNat], List.getElem_mem hj, ?_⟩
  have z : atI cs ((r.toNat : Nat) : Int) = some cs[r.toNat] := atI_nat (List.getElem?_eq_getElem hj)
  rw [show ((r.toNat : Nat) : Int) = r by omega] at z
  exact z
def OnesP (p : Nat → Prop) (ss : List Str) : Prop := ∀ x ∈ ss, ∃ c, p c ∧ x = ⟨#[c]⟩
theorem ones_sum {p : Nat → Prop} : ∀ {ss : List Str}, OnesP p ss → (ss.map (·.length)).sum = ss.length
  | [], _ => rfl
  | x :: ss, h => by
    obtain ⟨c, _, rfl⟩ := h x List.mem_cons_self
    have h2 := ones_sum (ss := ss) fun y my => h y (List.mem_cons_of_mem _ my)
    simp only [List.map_cons, List.sum_cons, List.length_cons, h2]
    show 1 + ss.length = ss.length + 1
    omega
theorem ones_more {p : Nat → Prop} {ss : List Str} {c : Nat} (h : OnesP p ss) (hc : p c) : OnesP p (ss ++ [⟨#[c]⟩]) := fun x mx => by
  rcases List.mem_append.mp mx with mx | mx
  · exact h x mx
  · rw [List.mem_singleton.mp mx]; exact ⟨c, hc, rfl⟩
theorem join_go : ∀ (l : List Str) (acc : Array Nat), (l.foldl (fun acc p => acc ++ (Str.cps "") ++ p.cps) acc).toList = acc.toList ++ (l.map fun x => x.cps.toList).flatten
  | [], acc => by simp
  | x :: l, acc => by
    rw [List.foldl_cons, join_go l, List.map_cons, List.flatten_cons, Array.toList_append, Array.toList_append]
    have e : (Str.cps "").toList = [] := by decide +kernel
    rw [e, List.append_nil, List.append_assoc]
theorem join_list : ∀ ss : List Str, (Txt.join "" ss).cps.toList = (ss.map fun x => x.cps.toList).flatten
  | [] => rfl
  | x :: ss => by
    show ((ss.foldl (fun acc p => acc ++ (Str.cps "") ++ p.cps) x.cps)).toList = _
    rw [join_go, List.map_cons, List.flatten_cons]
theorem join_codes {p : Nat → Prop} {ss : List Str} (h : OnesP p ss) : ∀ c ∈ (Txt.join "" ss).cps.toList, p c := by
  intro c mc
  rw [join_list] at mc
  obtain ⟨l, ml, mc⟩ := List.mem_flatten.mp mc
  obtain ⟨x, mx, rfl⟩ := List.mem_map.mp ml
  obtain ⟨c', pc, rfl⟩ := h x mx
  have e : c = c' := by simpa using mc
  rw [e]
  exact pc
theorem join_len {p : Nat → Prop} {ss : List Str} (h : OnesP p ss) : (Txt.join "" ss).length = ss.length := by
  show (Txt.join "" ss).cps.size = _
  rw [← Array.length_toList, join_list, List.length_flatten, List.map_map, ← ones_sum h]
  congr 1
theorem nameT {i : Nat} {v : V} {σ : L2.St} {H : Hp} {A B : L2.St → Hp → Prop} (h : A (σ.set i (some v)) H) : gName i v σ H fun σ2 H2 => tAlways σ2 H2 fun ok H3 => if ok = true then A σ2 H3 else B σ2 H3 :=
  alwaysT (σ := σ.set i (some v)) (A := A (σ.set i (some v))) (B := B (σ.set i (some v))) h
section
variable {P : Program} {w : World} {K : PySem.W.Frag} {mg : Str → Option Value} {base : Heap} {f : Addr} {fd : FuncData}
theorem ok_feed (F : Fun K "_law_feed" "_law_feed" s_law_feed f fd) (m : Bn mg) : FnOk P w K mg base CX0 1 f fd ["_law_script", "_law_k"] (spFeed K) := by
  refine F.ok sc_law_feed (fun vs H Q E h => ?_) (fun cdv A outer s H vs Q E hr h => ?_)
  · obtain ⟨a, ns, k, rfl, _⟩ := h
    rfl
  obtain ⟨a, ns, k, rfl, hS, h63, hk, q⟩ := h
  refine ⟨_, (@pss_cons _ _ _ _ _ (@ps_if _ _ _ _ _ _ _ _ (@pt_cmpR _ _ _ _ _ _ _ _ op_eq (@pe_callB _ _ _ _ _ _ _ _ _ call_len_seq rfl m.len b_len (@pa_cons _ _ _ _ _ (pv 0) pa_nil rfl) (by decide) (by decide) rfl rfl) pe_int (nomark _)) (@pss_one _ _ _ (@ps_ret _ _ _ _ (@pe_lst _ _ _ _ (@pa_cons _ _ _ _ _ pe_int (@pa_cons _ _ _ _ _ pe_int (@pa_cons _ _ _ _ _ (pv 1) (@pa_cons _ _ _ _ _ pe_int pa_nil rfl) rfl) rfl) rfl)))) pss_nil) (@pss_cons _ _ _ _ _ (@ps_setI _ 2 _ _ _ _ _ sc_law_feed.nd rfl (by first | exact Or.inl rfl | exact Or.inr rfl) (@pe_ix _ _ _ _ _ _ _ ix_list (pv 0) (@pe_op _ _ _ _ _ _ _ _ op_mod (pv 1) (@pe_callB _ _ _ _ _ _ _ _ _ call_len_seq rfl m.len b_len (@pa_cons _ _ _ _ _ (pv 0) pa_nil rfl) (by decide) (by decide) rfl rfl)) (fun _ _ =>  rfl)) rfl (by first | exact .inl rfl | exact .inr rfl)) (@pss_one _ _ _ (@ps_ret _ _ _ _ (@pe_lst _ _ _ _ (@pa_cons _ _ _ _ _ (@pe_callB _ _ _ _ _ _ _ _ _ (call_max2 rfl) rfl m.max b_max (@pa_cons _ _ _ _ _ pe_int (@pa_cons _ _ _ _ _ (@pe_op _ _ _ _ _ _ _ _ op_sub (pv 2) (@pe_op _ _ _ _ _ _ _ _ op_pow pe_int pe_int)) pa_nil rfl) rfl) (by decide) (by decide) rfl rfl) (@pa_cons _ _ _ _ _ (pv 2) (@pa_cons _ _ _ _ _ (pv 1) (@pa_cons _ _ _ _ _ pe_int pa_nil rfl) rfl) rfl) rfl)))))), ?_⟩
  have hl : (ns.map V.int).length = ns.length := List.length_map _
  refine ⟨_, rfl, a, _, rfl, .inl hS, rfl, _, rfl, ?_⟩
  refine ite2 (fun c => ?_) (fun c => ?_)
  · refine ⟨_, rfl, (by show 4 ≤ sizeLine; decide), fun l hl' => ?_⟩
    exact q l _ ((Same.refl H).put hl') hl' ⟨_, _, _, _, upd_same⟩
  · have c' : 0 < ns.length := by
      rcases Nat.eq_zero_or_pos ns.length with z | z
      · exfalso
        apply c
        rw [hl, z]
        rfl
      · exact z
    have hpos : (0 : Int) < (((ns.map V.int).length : Nat) : Int) := by rw [hl]; omega
    have hr0 := Int.emod_nonneg k (Int.ne_of_gt hpos)
    have hr1 := Int.emod_lt_of_pos k hpos
    generalize hix : k % (((ns.map V.int).length : Nat) : Int) = ix at hr0 hr1
    have hj : ix.toNat < ns.length := by omega
    have hat : atI (ns.map V.int) ix = some (.int ns[ix.toNat]) := by
      have z : atI (ns.map V.int) ((ix.toNat : Nat) : Int) = some (.int ns[ix.toNat]) := atI_nat (by rw [List.getElem?_map, List.getElem?_eq_getElem hj] <;> rfl)
      rw [show ((ix.toNat : Nat) : Int) = ix by omega] at z
      exact z
    refine ⟨_, rfl, _, rfl, _, rfl, a, _, rfl, .inl hS, _, _, rfl, rfl, hpos, a, _, _, _, rfl, rfl, hS, (by rw [hix]; exact hat), ?_⟩
    refine ⟨_, rfl, _, _, rfl, rfl, ⟨by decide, by decide, by decide⟩, _, _, rfl, rfl, _, _, rfl, _, rfl, _, rfl, (by show 4 ≤ sizeLine; decide), fun l hl' => ?_⟩
    exact q l _ ((Same.refl H).put hl') hl' ⟨_, _, _, _, upd_same⟩
theorem step_upd {l : Addr} {H : Hp} (a b c d : Int) : Step l H (upd H l (.lst [.int a, .int b, .int c, .int d])) := ⟨fun x o n h => by rw [upd_ne n]; exact h, a, b, c, d, upd_same⟩
theorem ok_draw (F : Fun K "_law_draw" "_law_draw" s_law_draw f fd) : FnOk P w K mg base CX0 1 f fd ["_law_feed_here", "_law_many"] spDraw := by
  refine F.ok sc_law_draw (fun vs H Q E h => ?_) (fun cdv A outer s H vs Q E hr h => ?_)
  · obtain ⟨l, m, rfl, _⟩ := h
    rfl
  obtain ⟨l, m, rfl, ⟨a, b, c, d, hH⟩, hm, hm2, q⟩ := h
  refine ⟨_, (@pss_cons _ _ _ _ _ (@ps_asg _ _ _ _ _ _ (@pe_op _ _ _ _ _ _ _ _ op_add (@pe_ix _ _ _ _ _ _ _ ix_list (pv 0) pe_int (fun _ _ =>  rfl)) pe_int) (@pg_sub _ _ _ _ _ _ _ (pv 0) pe_int set_list (by first | rfl | decide | (intro _; rfl) | exact .inl rfl | exact .inr rfl | assumption)) (by first | rfl | decide | (intro _; rfl) | exact .inl rfl | exact .inr rfl | assumption) (by first | rfl | decide | (intro _; rfl) | exact .inl rfl | exact .inr rfl | assumption) (by first | rfl | decide | (intro _; rfl) | exact .inl rfl | exact .inr rfl | assumption)) (@pss_cons _ _ _ _ _ (@ps_if _ _ _ _ _ _ _ _ (@pt_cmpR _ _ _ _ _ _ _ _ op_gt (@pe_ix _ _ _ _ _ _ _ ix_list (pv 0) pe_int (fun _ _ =>  rfl)) pe_int (nomark _)) (@pss_cons _ _ _ _ _ (@ps_setI _ 2 _ _ _ _ _ sc_law_draw.nd rfl (by first | exact Or.inl rfl | exact Or.inr rfl) (@pe_op _ _ _ _ _ _ _ _ op_mod (@pe_ix _ _ _ _ _ _ _ ix_list (pv 0) pe_int (fun _ _ =>  rfl)) (pv 1)) rfl (by first | exact .inl rfl | exact .inr rfl)) (@pss_cons _ _ _ _ _ (@ps_asg _ _ _ _ _ _ (@pe_op _ _ _ _ _ _ _ _ op_fdiv (@pe_ix _ _ _ _ _ _ _ ix_list (pv 0) pe_int (fun _ _ =>  rfl)) (pv 1)) (@pg_sub _ _ _ _ _ _ _ (pv 0) pe_int set_list (by first | rfl | decide | (intro _; rfl) | exact .inl rfl | exact .inr rfl | assumption)) (by first | rfl | decide | (intro _; rfl) | exact .inl rfl | exact .inr rfl | assumption) (by first | rfl | decide | (intro _; rfl) | exact .inl rfl | exact .inr rfl | assumption) (by first | rfl | decide | (intro _; rfl) | exact .inl rfl | exact .inr rfl | assumption)) (@pss_one _ _ _ (@ps_ret _ _ _ _ (pv 2))))) pss_nil) (@pss_cons _ _ _ _ _ (@ps_setI _ 3 _ _ _ _ _ sc_law_draw.nd rfl (by first | exact Or.inl rfl | exact Or.inr rfl) (@pe_op _ _ _ _ _ _ _ _ op_mod (@pe_op _ _ _ _ _ _ _ _ op_add (@pe_op _ _ _ _ _ _ _ _ op_add (@pe_ix _ _ _ _ _ _ _ ix_list (pv 0) pe_int (fun _ _ =>  rfl)) (@pe_op _ _ _ _ _ _ _ _ op_mul pe_int (@pe_ix _ _ _ _ _ _ _ ix_list (pv 0) pe_int (fun _ _ =>  rfl)))) (@pe_op _ _ _ _ _ _ _ _ op_mul pe_int (@pe_ix _ _ _ _ _ _ _ ix_list (pv 0) pe_int (fun _ _ =>  rfl)))) pe_int) rfl (by first | exact .inl rfl | exact .inr rfl)) (@pss_cons _ _ _ _ _ (@ps_setI _ 3 _ _ _ _ _ sc_law_draw.nd rfl (by first | exact Or.inl rfl | exact Or.inr rfl) (@pe_op _ _ _ _ _ _ _ _ op_mod (@pe_op _ _ _ _ _ _ _ _ op_add (@pe_op _ _ _ _ _ _ _ _ op_add (@pe_op _ _ _ _ _ _ _ _ op_mul (pv 3) (pv 3)) (@pe_op _ _ _ _ _ _ _ _ op_mul pe_int (pv 3))) (@pe_ix _ _ _ _ _ _ _ ix_list (pv 0) pe_int (fun _ _ =>  rfl))) pe_int) rfl (by first | exact .inl rfl | exact .inr rfl)) (@pss_cons _ _ _ _ _ (@ps_setI _ 3 _ _ _ _ _ sc_law_draw.nd rfl (by first | exact Or.inl rfl | exact Or.inr rfl) (@pe_op _ _ _ _ _ _ _ _ op_mod (@pe_op _ _ _ _ _ _ _ _ op_add (@pe_op _ _ _ _ _ _ _ _ op_add (@pe_op _ _ _ _ _ _ _ _ op_mul (pv 3) (pv 3)) (@pe_op _ _ _ _ _ _ _ _ op_mul pe_int (pv 3))) (@pe_ix _ _ _ _ _ _ _ ix_list (pv 0) pe_int (fun _ _ =>  rfl))) pe_int) rfl (by first | exact .inl rfl | exact .inr rfl)) (@pss_one _ _ _ (@ps_ret _ _ _ _ (@pe_op _ _ _ _ _ _ _ _ op_mod (pv 3) (pv 1))))))))), ?_⟩
  refine ⟨_, rfl, l, _, _, _, rfl, rfl, SqL.of hH, rfl, _, _, rfl, rfl, _, rfl, l, _, _, _, rfl, rfl, hH, rfl, ?_⟩
  have h2 : SqL K (upd H l (.lst [.int a, .int b, .int c, .int (d + 1)])) l [.int a, .int b, .int c, .int (d + 1)] := SqL.of upd_same
  refine ⟨_, rfl, l, _, _, _, rfl, rfl, h2, rfl, _, _, rfl, rfl, _, rfl, ?_⟩
  refine ite2 (fun c1 => ?_) (fun c1 => ?_)
  · refine ⟨_, rfl, l, _, _, _, rfl, rfl, h2, rfl, _, rfl, _, _, rfl, rfl, hm, ?_⟩
    refine ⟨_, rfl, l, _, _, _, rfl, rfl, h2, rfl, _, rfl, _, _, rfl, rfl, ⟨hm, hm2⟩, _, rfl, l, _, _, _, rfl, rfl, upd_same, rfl, ?_⟩
    refine ⟨_, rfl, ?_⟩
    rw [upd_upd]
    exact q (a % m) _ (Int.emod_nonneg _ (by omega)) (Int.emod_lt_of_pos _ hm) (step_upd _ _ _ _)
  · refine ⟨_, rfl, l, _, _, _, rfl, rfl, h2, rfl, _, rfl, l, _, _, _, rfl, rfl, h2, rfl, _, _, rfl, rfl, .inl ⟨by decide, by decide⟩, _, _, rfl, rfl, _, rfl, l, _, _, _, rfl, rfl, h2, rfl, _, _, rfl, rfl, .inl ⟨by decide, by decide⟩, _, _, rfl, rfl, _, _, rfl, rfl, (by show (0 : Int) < 2147483629; decide), ?_⟩
    generalize hx1 : (b + 7919 * c + 104729 * (d + 1)) % 2147483629 = x1
    have b1 : 0 ≤ x1 ∧ x1 < 2147483629 := by omega
    refine ⟨_, rfl, _, rfl, _, _, rfl, rfl, .inl ⟨by omega, by omega⟩, _, rfl, _, _, rfl, rfl, .inl ⟨by decide, by decide⟩, _, _, rfl, rfl, _, rfl, l, _, _, _, rfl, rfl, h2, rfl, _, _, rfl, rfl, _, _, rfl, rfl, (by show (0 : Int) < 2147483629; decide), ?_⟩
    generalize hx2 : (x1 * x1 + 48271 * x1 + c) % 2147483629 = x2
    have b2 : 0 ≤ x2 ∧ x2 < 2147483629 := by omega
    refine ⟨_, rfl, _, rfl, _, _, rfl, rfl, .inl ⟨by omega, by omega⟩, _, rfl, _, _, rfl, rfl, .inl ⟨by decide, by decide⟩, _, _, rfl, rfl, _, rfl, l, _, _, _, rfl, rfl, h2, rfl, _, _, rfl, rfl, _, _, rfl, rfl, (by show (0 : Int) < 2147483587; decide), ?_⟩
    refine ⟨_, rfl, _, rfl, _, _, rfl, rfl, hm, ?_⟩
    exact q _ _ (Int.emod_nonneg _ (by omega)) (Int.emod_lt_of_pos _ hm) (step_upd _ _ _ _)
theorem ok_number (F : Fun K "_law_number" "_law_number" s_law_number f fd) (m : Bn mg) (g_law_draw : Fn P w K mg base 1 "_law_draw" ["_law_feed_here", "_law_many"] spDraw) : FnOk P w K mg base CX0 2 f fd ["_law_feed_here"] (spIntD fun n => 1 ≤ n ∧ n ≤ 999) := by
  refine F.ok sc_law_number (fun vs H Q E h => ?_) (fun cdv A outer s H vs Q E hr h => ?_)
  · obtain ⟨l, rfl, _⟩ := h
    rfl
  obtain ⟨l, rfl, fe, q⟩ := h
  refine ⟨_, (@pss_cons _ _ _ _ _ (@ps_setI _ 1 _ _ _ _ _ sc_law_number.nd rfl (by first | exact Or.inl rfl | exact Or.inr rfl) (@pe_lst _ _ _ _ (@pa_cons _ _ _ _ _ pe_int (@pa_cons _ _ _ _ _ pe_int (@pa_cons _ _ _ _ _ pe_int (@pa_cons _ _ _ _ _ pe_int (@pa_cons _ _ _ _ _ pe_int (@pa_cons _ _ _ _ _ pe_int (@pa_cons _ _ _ _ _ pe_int (@pa_cons _ _ _ _ _ pe_int (@pa_cons _ _ _ _ _ pe_int (@pa_cons _ _ _ _ _ pe_int (@pa_cons _ _ _ _ _ pe_int (@pa_cons _ _ _ _ _ pe_int (@pa_cons _ _ _ _ _ pe_int pa_nil rfl) rfl) rfl) rfl) rfl) rfl) rfl) rfl) rfl) rfl) rfl) rfl) rfl)) rfl (by first | exact .inl rfl | exact .inr rfl)) (@pss_cons _ _ _ _ _ (@ps_if _ _ _ _ _ _ _ _ (@pt_cmpR _ _ _ _ _ _ _ _ op_eq (@pe_callF _ _ _ _ _ _ _ _ _ _ g_law_draw (hr.mono (by omega)) rfl (@pa_cons _ _ _ _ _ (pv 0) (@pa_cons _ _ _ _ _ pe_int pa_nil rfl) rfl) (by decide) rfl rfl) pe_int (nomark _)) (@pss_one _ _ _ (@ps_ret _ _ _ _ (@pe_op _ _ _ _ _ _ _ _ op_add pe_int (@pe_callF _ _ _ _ _ _ _ _ _ _ g_law_draw (hr.mono (by omega)) rfl (@pa_cons _ _ _ _ _ (pv 0) (@pa_cons _ _ _ _ _ pe_int pa_nil rfl) rfl) (by decide) rfl rfl)))) pss_nil) (@pss_one _ _ _ (@ps_ret _ _ _ _ (@pe_ix _ _ _ _ _ _ _ ix_list (pv 1) (@pe_callF _ _ _ _ _ _ _ _ _ _ g_law_draw (hr.mono (by omega)) rfl (@pa_cons _ _ _ _ _ (pv 0) (@pa_cons _ _ _ _ _ pe_int pa_nil rfl) rfl) (by decide) rfl rfl) (fun _ _ =>  rfl)))))), ?_⟩
  refine ⟨(by show 13 ≤ sizeLine; decide), fun p hp => ?_⟩
  have np := fe.ne hp
  have t0 := (Step.refl fe).lay (o := .lst ([1, 2, 9, 10, 99, 100, 127, 128, 129, 255, 256, 998, 999].map V.int)) fe hp
  refine ⟨_, rfl, l, 3, rfl, t0.feed, by decide, by decide, fun r1 H1 _ _ t1 => ⟨rfl, _, rfl, ?_⟩⟩
  refine ite2 (fun c => ?_) (fun c => ?_)
  · exact ⟨_, rfl, l, 999, rfl, t1.feed, by decide, by decide, fun r2 H2 a2 b2 t2 => ⟨_, _, rfl, rfl, q _ H2 ⟨by omega, by omega⟩ ((t0.trans t1).trans t2)⟩⟩
  · refine ⟨_, rfl, _, rfl, l, 13, rfl, t1.feed, by decide, by decide, fun r2 H2 a b t2 => ?_⟩
    obtain ⟨n, mn, hn⟩ := pickI [1, 2, 9, 10, 99, 100, 127, 128, 129, 255, 256, 998, 999] a b
    exact ⟨p, _, _, _, rfl, rfl, SqL.of (t2.keep _ _ np (t1.keep _ _ np upd_same)), hn, q _ H2 (by simp only [List.mem_cons, List.not_mem_nil, or_false] at mn; omega) ((t0.trans t1).trans t2)⟩
theorem ok_whole (F : Fun K "_law_whole" "_law_whole" s_law_whole f fd) (m : Bn mg) (g_law_draw : Fn P w K mg base 1 "_law_draw" ["_law_feed_here", "_law_many"] spDraw) : FnOk P w K mg base CX0 2 f fd ["_law_feed_here"] (spIntD fun n => -1000000000000000000 ≤ n ∧ n ≤ 1000000000000000000) := by
  refine F.ok sc_law_whole (fun vs H Q E h => ?_) (fun cdv A outer s H vs Q E hr h => ?_)
  · obtain ⟨l, rfl, _⟩ := h
    rfl
  obtain ⟨l, rfl, fe, q⟩ := h
  refine ⟨_, (@pss_cons _ _ _ _ _ (@ps_setI _ 1 _ _ _ _ _ sc_law_whole.nd rfl (by first | exact Or.inl rfl | exact Or.inr rfl) (@pe_lst _ _ _ _ (@pa_cons _ _ _ _ _ pe_int (@pa_cons _ _ _ _ _ pe_int (@pa_cons _ _ _ _ _ (@pe_un _ _ _ _ _ _ un_neg pe_int) (@pa_cons _ _ _ _ _ pe_int (@pa_cons _ _ _ _ _ pe_int (@pa_cons _ _ _ _ _ (@pe_un _ _ _ _ _ _ un_neg pe_int) (@pa_cons _ _ _ _ _ (@pe_un _ _ _ _ _ _ un_neg pe_int) (@pa_cons _ _ _ _ _ pe_int (@pa_cons _ _ _ _ _ pe_int (@pa_cons _ _ _ _ _ pe_int (@pa_cons _ _ _ _ _ (@pe_un _ _ _ _ _ _ un_neg pe_int) (@pa_cons _ _ _ _ _ (@pe_un _ _ _ _ _ _ un_neg pe_int) (@pa_cons _ _ _ _ _ (@pe_op _ _ _ _ _ _ _ _ op_pow pe_int pe_int) (@pa_cons _ _ _ _ _ (@pe_un _ _ _ _ _ _ un_neg (@pe_op _ _ _ _ _ _ _ _ op_pow pe_int pe_int)) (@pa_cons _ _ _ _ _ (@pe_op _ _ _ _ _ _ _ _ op_sub (@pe_op _ _ _ _ _ _ _ _ op_pow pe_int pe_int) pe_int) (@pa_cons _ _ _ _ _ (@pe_op _ _ _ _ _ _ _ _ op_sub pe_int (@pe_op _ _ _ _ _ _ _ _ op_pow pe_int pe_int)) pa_nil rfl) rfl) rfl) rfl) rfl) rfl) rfl) rfl) rfl) rfl) rfl) rfl) rfl) rfl) rfl) rfl)) rfl (by first | exact .inl rfl | exact .inr rfl)) (@pss_cons _ _ _ _ _ (@ps_if _ _ _ _ _ _ _ _ (@pt_cmpR _ _ _ _ _ _ _ _ op_eq (@pe_callF _ _ _ _ _ _ _ _ _ _ g_law_draw (hr.mono (by omega)) rfl (@pa_cons _ _ _ _ _ (pv 0) (@pa_cons _ _ _ _ _ pe_int pa_nil rfl) rfl) (by decide) rfl rfl) pe_int (nomark _)) (@pss_one _ _ _ (@ps_ret _ _ _ _ (@pe_ix _ _ _ _ _ _ _ ix_list (pv 1) (@pe_callF _ _ _ _ _ _ _ _ _ _ g_law_draw (hr.mono (by omega)) rfl (@pa_cons _ _ _ _ _ (pv 0) (@pa_cons _ _ _ _ _ pe_int pa_nil rfl) rfl) (by decide) rfl rfl) (fun _ _ =>  rfl)))) pss_nil) (@pss_cons _ _ _ _ _ (@ps_setI _ 2 _ _ _ _ _ sc_law_whole.nd rfl (by first | exact Or.inl rfl | exact Or.inr rfl) (@pe_op _ _ _ _ _ _ _ _ op_mod (@pe_op _ _ _ _ _ _ _ _ op_mul (@pe_callF _ _ _ _ _ _ _ _ _ _ g_law_draw (hr.mono (by omega)) rfl (@pa_cons _ _ _ _ _ (pv 0) (@pa_cons _ _ _ _ _ (@pe_op _ _ _ _ _ _ _ _ op_pow pe_int pe_int) pa_nil rfl) rfl) (by decide) rfl rfl) (@pe_ix _ _ _ _ _ _ _ ix_list (@pe_lst _ _ _ _ (@pa_cons _ _ _ _ _ pe_int (@pa_cons _ _ _ _ _ (@pe_op _ _ _ _ _ _ _ _ op_pow pe_int pe_int) (@pa_cons _ _ _ _ _ (@pe_op _ _ _ _ _ _ _ _ op_pow pe_int pe_int) pa_nil rfl) rfl) rfl)) (@pe_callF _ _ _ _ _ _ _ _ _ _ g_law_draw (hr.mono (by omega)) rfl (@pa_cons _ _ _ _ _ (pv 0) (@pa_cons _ _ _ _ _ pe_int pa_nil rfl) rfl) (by decide) rfl rfl) (fun _ _ =>  rfl))) (@pe_op _ _ _ _ _ _ _ _ op_add (@pe_op _ _ _ _ _ _ _ _ op_pow pe_int pe_int) pe_int)) rfl (by first | exact .inl rfl | exact .inr rfl)) (@pss_one _ _ _ (@ps_ret _ _ _ _ (@pe_ix _ _ _ _ _ _ _ ix_list (@pe_lst _ _ _ _ (@pa_cons _ _ _ _ _ (pv 2) (@pa_cons _ _ _ _ _ (@pe_un _ _ _ _ _ _ un_neg (pv 2)) pa_nil rfl) rfl)) (@pe_callF _ _ _ _ _ _ _ _ _ _ g_law_draw (hr.mono (by omega)) rfl (@pa_cons _ _ _ _ _ (pv 0) (@pa_cons _ _ _ _ _ pe_int pa_nil rfl) rfl) (by decide) rfl rfl) (fun _ _ =>  rfl))))))), ?_⟩
  have pw : CPow 10 18 := ⟨by decide, by decide, by decide⟩
  refine ⟨_, rfl, _, rfl, _, rfl, _, rfl, _, rfl, _, _, rfl, rfl, pw, _, _, rfl, rfl, pw, _, rfl, _, _, rfl, rfl, pw, _, _, rfl, rfl, _, _, rfl, rfl, pw, _, _, rfl, rfl, (by show 16 ≤ sizeLine; decide), fun p hp => ?_⟩
  have np := fe.ne hp
  have t0 := (Step.refl fe).lay (o := .lst ([0, 1, -1, 63, 64, -64, -65, 127, 8191, 8192, -8192, -8193, (10 : Int) ^ (18 : Int).toNat, -((10 : Int) ^ (18 : Int).toNat), (10 : Int) ^ (18 : Int).toNat - 1, 1 - (10 : Int) ^ (18 : Int).toNat].map V.int)) fe hp
  refine ⟨_, rfl, l, 3, rfl, t0.feed, by decide, by decide, fun r1 H1 _ _ t1 => ⟨rfl, _, rfl, ?_⟩⟩
  refine ite2 (fun c => ?_) (fun c => ?_)
  · refine ⟨_, rfl, _, rfl, l, 16, rfl, t1.feed, by decide, by decide, fun r2 H2 a b t2 => ?_⟩
    obtain ⟨n, mn, hn⟩ := pickI [0, 1, -1, 63, 64, -64, -65, 127, 8191, 8192, -8192, -8193, (10 : Int) ^ (18 : Int).toNat, -((10 : Int) ^ (18 : Int).toNat), (10 : Int) ^ (18 : Int).toNat - 1, 1 - (10 : Int) ^ (18 : Int).toNat] a b
    exact ⟨p, _, _, _, rfl, rfl, SqL.of (t2.keep _ _ np (t1.keep _ _ np upd_same)), hn, q _ H2 (by rw [show (10 : Int) ^ (18 : Int).toNat = 1000000000000000000 from rfl] at mn; simp only [List.mem_cons, List.not_mem_nil, or_false] at mn; omega) ((t0.trans t1).trans t2)⟩
  · have t01 := t0.trans t1
    refine ⟨_, rfl, _, _, rfl, rfl, ⟨by decide, by decide, by decide⟩, l, 10 ^ (9 : Int).toNat, rfl, t1.feed, by decide, by decide, fun r2 H2 a2 b2 t2 => ?_⟩
    have t02 := t01.trans t2
    refine ⟨_, _, rfl, rfl, ⟨by decide, by decide, by decide⟩, _, _, rfl, rfl, ⟨by decide, by decide, by decide⟩, (by show 3 ≤ sizeLine; decide), fun p2 hp2 => ?_⟩
    have t03 := t02.lay (o := .lst ([1, (10 : Int) ^ (5 : Int).toNat, (10 : Int) ^ (9 : Int).toNat].map V.int)) fe hp2
    have np2 := t02.feed.ne hp2
    refine ⟨_, rfl, l, 3, rfl, t03.feed, by decide, by decide, fun r3 H3 a3 b3 t3 => ?_⟩
    obtain ⟨n3, m3, hn3⟩ := pickI [1, (10 : Int) ^ (5 : Int).toNat, (10 : Int) ^ (9 : Int).toNat] a3 b3
    have b2' : r2 < 1000000000 := b2
    refine ⟨p2, _, _, _, rfl, rfl, SqL.of (t3.keep _ _ np2 upd_same), hn3, _, _, rfl, rfl, .inl ⟨by omega, by omega⟩, _, _, rfl, rfl, pw, _, _, rfl, rfl, _, _, rfl, rfl, (by show (0 : Int) < 10 ^ (18 : Int).toNat + 1; decide), ?_⟩
    have t04 := t03.trans t3
    refine ⟨_, rfl, _, rfl, _, rfl, (by show 2 ≤ sizeLine; decide), fun p4 hp4 => ?_⟩
    have t05 := t04.lay (o := .lst ([r2 * n3 % ((10 : Int) ^ (18 : Int).toNat + 1), -(r2 * n3 % ((10 : Int) ^ (18 : Int).toNat + 1))].map V.int)) fe hp4
    have np4 := t04.feed.ne hp4
    refine ⟨_, rfl, l, 2, rfl, t05.feed, by decide, by decide, fun r5 H5 a5 b5 t5 => ?_⟩
    obtain ⟨n5, m5, hn5⟩ := pickI [r2 * n3 % ((10 : Int) ^ (18 : Int).toNat + 1), -(r2 * n3 % ((10 : Int) ^ (18 : Int).toNat + 1))] a5 b5
    exact ⟨p4, _, _, _, rfl, rfl, SqL.of (t5.keep _ _ np4 upd_same), hn5, q _ H5 (by rw [show (10 : Int) ^ (18 : Int).toNat = 1000000000000000000 from rfl] at m5; simp only [List.mem_cons, List.not_mem_nil, or_false] at m5; omega) (t05.trans t5)⟩
theorem joins {c A : Prop} [Decidable c] {D : Ends} {σ : L2.St} {H : Hp} (J : L2.St → Hp → Prop) (hJ : ∀ σ H, J σ H → D.nx σ H) (h1 : c → (∀ σ H, J σ H → D.nx σ H) → A) (h2 : ¬ c → J σ H) : if c then A else tNext D σ H :=
  ite2 (fun c' => h1 c' hJ) fun c' => hJ _ _ (h2 c')
theorem ok_name (F : Fun K "_law_name" "_law_name" s_law_name f fd) (m : Bn mg) (g_law_draw : Fn P w K mg base 1 "_law_draw" ["_law_feed_here", "_law_many"] spDraw) : FnOk P w K mg base CX0 2 f fd ["_law_feed_here"] (spStrD nameOk) := by
  refine F.ok sc_law_name (fun vs H Q E h => ?_) (fun cdv A outer s H vs Q E hr h => ?_)
  · obtain ⟨l, rfl, _⟩ := h
    rfl
  obtain ⟨l, rfl, fe, q⟩ := h
  refine ⟨_, (@pss_cons _ _ _ _ _ (@ps_setI _ 1 _ _ _ _ _ sc_law_name.nd rfl (by first | exact Or.inl rfl | exact Or.inr rfl) (@pe_lst _ _ _ _ (@pa_cons _ _ _ _ _ pe_str (@pa_cons _ _ _ _ _ pe_str (@pa_cons _ _ _ _ _ pe_str (@pa_cons _ _ _ _ _ pe_str (@pa_cons _ _ _ _ _ pe_str (@pa_cons _ _ _ _ _ pe_str (@pa_cons _ _ _ _ _ pe_str (@pa_cons _ _ _ _ _ pe_str (@pa_cons _ _ _ _ _ pe_str (@pa_cons _ _ _ _ _ pe_str pa_nil rfl) rfl) rfl) rfl) rfl) rfl) rfl) rfl) rfl) rfl)) rfl (by first | exact .inl rfl | exact .inr rfl)) (@pss_cons _ _ _ _ _ (@ps_if _ _ _ _ _ _ _ _ (@pt_cmpR _ _ _ _ _ _ _ _ op_eq (@pe_callF _ _ _ _ _ _ _ _ _ _ g_law_draw (hr.mono (by omega)) rfl (@pa_cons _ _ _ _ _ (pv 0) (@pa_cons _ _ _ _ _ pe_int pa_nil rfl) rfl) (by decide) rfl rfl) pe_int (nomark _)) (@pss_one _ _ _ (@ps_ret _ _ _ _ (@pe_ix _ _ _ _ _ _ _ ix_list (pv 1) (@pe_callF _ _ _ _ _ _ _ _ _ _ g_law_draw (hr.mono (by omega)) rfl (@pa_cons _ _ _ _ _ (pv 0) (@pa_cons _ _ _ _ _ pe_int pa_nil rfl) rfl) (by decide) rfl rfl) (fun _ _ =>  rfl)))) pss_nil) (@pss_cons _ _ _ _ _ (@ps_setI _ 2 _ _ _ _ _ sc_law_name.nd rfl (by first | exact Or.inl rfl | exact Or.inr rfl) pe_str rfl (by first | exact .inl rfl | exact .inr rfl)) (@pss_one _ _ _ (@ps_ret _ _ _ _ (@pe_bm _ _ _ _ _ _ _ _ _ _ _ _ PySem.F.plainAttrs_str PySem.F.slot_str_join PySem.F.type_str_join mt_join pe_str (@pa_cons _ _ _ _ _ (@pe_compI _ N_law_name (defScope s_law_name) ["_law_k", "_law_letters", "_law_feed_here"] [none, some 2, some 0] _ _ _ _ _ _ _ _ _ _ rfl (@pi_range1 _ _ _ _ _ _ rfl m.range (@pa_cons _ _ _ _ _ (@pe_op _ _ _ _ _ _ _ _ op_add pe_int (@pe_callF _ _ _ _ _ _ _ _ _ _ g_law_draw (hr.mono (by omega)) rfl (@pa_cons _ _ _ _ _ (pv 0) (@pa_cons _ _ _ _ _ pe_int pa_nil rfl) rfl) (by decide) rfl rfl)) pa_nil rfl) (by first | rfl | decide | (intro _; rfl) | exact .inl rfl | exact .inr rfl | assumption)) ⟨rfl, rfl, by decide +kernel, by decide +kernel⟩ (fun _ _ _ =>  (@pg_nameI _ 0 _ _ (show List.Nodup (["_law_k", "_law_letters", "_law_feed_here"] : List Str) from by decide +kernel) rfl (Or.inl rfl) (by first | exact .inl rfl | exact .inr rfl))) (fun _ _ _ =>  pts_nil) (fun _ _ _ =>  (@pe_ix _ _ _ _ _ _ _ ix_str (pv 1) (@pe_callF _ _ _ _ _ _ _ _ _ _ g_law_draw (hr.mono (by omega)) rfl (@pa_cons _ _ _ _ _ (pv 2) (@pa_cons _ _ _ _ _ pe_int pa_nil rfl) rfl) (by decide) rfl rfl) (fun _ _ =>  rfl))) (by first | rfl | decide | (intro _; rfl) | exact .inl rfl | exact .inr rfl | assumption)) pa_nil rfl) (by first | rfl | decide | (intro _; rfl) | exact .inl rfl | exact .inr rfl | assumption) (by first | rfl | decide | (intro _; rfl) | exact .inl rfl | exact .inr rfl | assumption) (by first | rfl | decide | (intro _; rfl) | exact .inl rfl | exact .inr rfl | assumption) (by first | rfl | decide | (intro _; rfl) | exact .inl rfl | exact .inr rfl | assumption) (by first | rfl | decide | (intro _; rfl) | exact .inl rfl | exact .inr rfl | assumption))))))), ?_⟩
  refine ⟨(by show 10 ≤ sizeLine; decide), fun p hp => ?_⟩
  have np := fe.ne hp
  have t0 := (Step.refl fe).lay (o := .lst ((["a", "ab", "abc", "z", "zz", "abcdefgh", "zzzzzzzz", "b", "ba", "row"] : List Str).map V.str)) fe hp
  refine ⟨_, rfl, l, 2, rfl, t0.feed, by decide, by decide, fun r1 H1 _ _ t1 => ⟨rfl, _, rfl, ?_⟩⟩
  have t01 := t0.trans t1
  refine ite2 (fun c => ?_) (fun c => ?_)
  · refine ⟨_, rfl, _, rfl, l, 10, rfl, t1.feed, by decide, by decide, fun r2 H2 a b t2 => ?_⟩
    obtain ⟨n, mn, hn⟩ := pickS ["a", "ab", "abc", "z", "zz", "abcdefgh", "zzzzzzzz", "b", "ba", "row"] a b
    exact ⟨p, _, _, _, rfl, rfl, SqL.of (t2.keep _ _ np (t1.keep _ _ np upd_same)), hn, q _ H2 (words_ok n mn) (t01.trans t2)⟩
  · refine ⟨rfl, _, rfl, l, 8, rfl, t1.feed, by decide, by decide, fun r2 H2 a2 b2 t2 => ?_⟩
    refine ⟨_, _, rfl, rfl, _, rfl, by omega, by omega, fun Dd fp sx hD => ?_⟩
    have t02 := t01.trans t2
    have nD := t02.feed.ne hD
    have hD0 := t02.free fe hD
    refine comp_range (n := (1 + r2).toNat) (fun i ys σ H5 => ∃ (ss : List Str) (o : Option V), ys = ss.map V.str ∧ OnesP (fun c => 97 ≤ c ∧ c ≤ 122) ss ∧ ss.length = i ∧ σ = [o, some (.str "abcdefghijklmnopqrstuvwxyz"), some (.ref l)] ∧ Step l H H5 ∧ H5 Dd = some (.lst ys))
      ⟨[], _, rfl, fun x mx => (List.not_mem_nil mx).elim, rfl, rfl, t02.put nD hD0, upd_same⟩ ?_ ?_ ?_
    · rintro i ys σ H5 hi ⟨ss, o, rfl, o1, l1, rfl, t5, h5⟩
      exact h5
    · rintro i ys σ H5 hi ⟨ss, o, rfl, o1, l1, rfl, t5, h5⟩
      refine nameT ?_
      refine ⟨_, rfl, _, rfl, l, 26, rfl, t5.feed, by decide, by decide, fun r6 H6 a6 b6 t6 => ?_⟩
      obtain ⟨c, mc, hc⟩ := pickC (Str.cps "abcdefghijklmnopqrstuvwxyz").toList a6 (by rw [show (Str.cps "abcdefghijklmnopqrstuvwxyz").toList.length = 26 by decide +kernel]; exact b6)
      refine ⟨_, _, _, rfl, rfl, (by decide +kernel), hc, t6.keep _ _ nD h5, ?_, ss ++ [⟨#[c]⟩], _, ?_, ones_more o1 (let_ok c mc), ?_, rfl, (t5.trans t6).put nD hD0, upd_same⟩
      · rw [List.length_map]; exact small1000 (by omega)
      · rw [List.map_append]; rfl
      · rw [List.length_append, List.length_singleton]; omega
    · rintro ys σ H5 ⟨ss, o, rfl, o1, l1, rfl, t5, h5⟩
      refine ⟨_, Dd, ss, rfl, rfl, SqL.of h5, ?_, q _ H5 ⟨?_, ?_, ?_⟩ t5⟩
      · rw [ones_sum o1]
        show ss.length + ss.length * 0 ≤ 16777216
        omega
      · rw [join_len o1]; omega
      · rw [join_len o1]; omega
      · exact join_codes o1
theorem ok_text (F : Fun K "_law_text" "_law_text" s_law_text f fd) (m : Bn mg) (g_law_draw : Fn P w K mg base 1 "_law_draw" ["_law_feed_here", "_law_many"] spDraw) : FnOk P w K mg base CX0 2 f fd ["_law_feed_here"] (spStrD textOk) := by
  refine F.ok sc_law_text (fun vs H Q E h => ?_) (fun cdv A outer s H vs Q E hr h => ?_)
  · obtain ⟨l, rfl, _⟩ := h
    rfl
  obtain ⟨l, rfl, fe, q⟩ := h
  refine ⟨_, (@pss_cons _ _ _ _ _ (@ps_setI _ 1 _ _ _ _ _ sc_law_text.nd rfl (by first | exact Or.inl rfl | exact Or.inr rfl) (@pe_callF _ _ _ _ _ _ _ _ _ _ g_law_draw (hr.mono (by omega)) rfl (@pa_cons _ _ _ _ _ (pv 0) (@pa_cons _ _ _ _ _ pe_int pa_nil rfl) rfl) (by decide) rfl rfl) rfl (by first | exact .inl rfl | exact .inr rfl)) (@pss_cons _ _ _ _ _ (@ps_if _ _ _ _ _ _ _ _ (@pt_cmpR _ _ _ _ _ _ _ _ op_eq (@pe_callF _ _ _ _ _ _ _ _ _ _ g_law_draw (hr.mono (by omega)) rfl (@pa_cons _ _ _ _ _ (pv 0) (@pa_cons _ _ _ _ _ pe_int pa_nil rfl) rfl) (by decide) rfl rfl) pe_int (nomark _)) (@pss_one _ _ _ (@ps_setI _ 1 _ _ _ _ _ sc_law_text.nd rfl (by first | exact Or.inl rfl | exact Or.inr rfl) (@pe_ix _ _ _ _ _ _ _ ix_list (@pe_lst _ _ _ _ (@pa_cons _ _ _ _ _ pe_int (@pa_cons _ _ _ _ _ pe_int (@pa_cons _ _ _ _ _ pe_int (@pa_cons _ _ _ _ _ pe_int (@pa_cons _ _ _ _ _ pe_int (@pa_cons _ _ _ _ _ pe_int pa_nil rfl) rfl) rfl) rfl) rfl) rfl)) (@pe_callF _ _ _ _ _ _ _ _ _ _ g_law_draw (hr.mono (by omega)) rfl (@pa_cons _ _ _ _ _ (pv 0) (@pa_cons _ _ _ _ _ pe_int pa_nil rfl) rfl) (by decide) rfl rfl) (fun _ _ =>  rfl)) rfl (by first | exact .inl rfl | exact .inr rfl))) pss_nil) (@pss_cons _ _ _ _ _ (@ps_setI _ 2 _ _ _ _ _ sc_law_text.nd rfl (by first | exact Or.inl rfl | exact Or.inr rfl) (@pe_op _ _ _ _ _ _ _ _ op_add_str (@pe_op _ _ _ _ _ _ _ _ op_add_str (@pe_op _ _ _ _ _ _ _ _ op_add_str pe_str pe_str) pe_str) pe_str) rfl (by first | exact .inl rfl | exact .inr rfl)) (@pss_cons _ _ _ _ _ (@ps_setI _ 2 _ _ _ _ _ sc_law_text.nd rfl (by first | exact Or.inl rfl | exact Or.inr rfl) (@pe_op _ _ _ _ _ _ _ _ op_add_str (pv 2) pe_str) rfl (by first | exact .inl rfl | exact .inr rfl)) (@pss_cons _ _ _ _ _ (@ps_setI _ 3 _ _ _ _ _ sc_law_text.nd rfl (by first | exact Or.inl rfl | exact Or.inr rfl) (@pe_callF _ _ _ _ _ _ _ _ _ _ g_law_draw (hr.mono (by omega)) rfl (@pa_cons _ _ _ _ _ (pv 0) (@pa_cons _ _ _ _ _ pe_int pa_nil rfl) rfl) (by decide) rfl rfl) rfl (by first | exact .inl rfl | exact .inr rfl)) (@pss_cons _ _ _ _ _ (@ps_setI _ 4 _ _ _ _ _ sc_law_text.nd rfl (by first | exact Or.inl rfl | exact Or.inr rfl) (@pe_op _ _ _ _ _ _ _ _ op_add pe_int (@pe_callF _ _ _ _ _ _ _ _ _ _ g_law_draw (hr.mono (by omega)) rfl (@pa_cons _ _ _ _ _ (pv 0) (@pa_cons _ _ _ _ _ pe_int pa_nil rfl) rfl) (by decide) rfl rfl)) rfl (by first | exact .inl rfl | exact .inr rfl)) (@pss_one _ _ _ (@ps_ret _ _ _ _ (@pe_bm _ _ _ _ _ _ _ _ _ _ _ _ PySem.F.plainAttrs_str PySem.F.slot_str_join PySem.F.type_str_join mt_join pe_str (@pa_cons _ _ _ _ _ (@pe_compI _ N_law_text (defScope s_law_text) ["_law_k", "_law_signs", "_law_start", "_law_step"] [none, some 2, some 3, some 4] _ _ _ _ _ _ _ _ _ _ rfl (@pi_range1 _ _ _ _ _ _ rfl m.range (@pa_cons _ _ _ _ _ (pv 1) pa_nil rfl) (by first | rfl | decide | (intro _; rfl) | exact .inl rfl | exact .inr rfl | assumption)) ⟨rfl, rfl, by decide +kernel, by decide +kernel⟩ (fun _ _ _ =>  (@pg_nameI _ 0 _ _ (show List.Nodup (["_law_k", "_law_signs", "_law_start", "_law_step"] : List Str) from by decide +kernel) rfl (Or.inl rfl) (by first | exact .inl rfl | exact .inr rfl))) (fun _ _ _ =>  pts_nil) (fun _ _ _ =>  (@pe_ix _ _ _ _ _ _ _ ix_str (pv 1) (@pe_op _ _ _ _ _ _ _ _ op_mod (@pe_op _ _ _ _ _ _ _ _ op_add (pv 2) (@pe_op _ _ _ _ _ _ _ _ op_mul (pv 3) (pv 0))) pe_int) (fun _ _ =>  rfl))) (by first | rfl | decide | (intro _; rfl) | exact .inl rfl | exact .inr rfl | assumption)) pa_nil rfl) (by first | rfl | decide | (intro _; rfl) | exact .inl rfl | exact .inr rfl | assumption) (by first | rfl | decide | (intro _; rfl) | exact .inl rfl | exact .inr rfl | assumption) (by first | rfl | decide | (intro _; rfl) | exact .inl rfl | exact .inr rfl | assumption) (by first | rfl | decide | (intro _; rfl) | exact .inl rfl | exact .inr rfl | assumption) (by first | rfl | decide | (intro _; rfl) | exact .inl rfl | exact .inr rfl | assumption)))))))))), ?_⟩
  refine ⟨_, rfl, l, 5, rfl, fe, by decide, by decide, fun r1 H1 a1 b1 t1 => ?_⟩
  refine ⟨_, rfl, l, 12, rfl, t1.feed, by decide, by decide, fun r2 H2 _ _ t2 => ⟨rfl, _, rfl, ?_⟩⟩
  have t02 := t1.trans t2
  refine joins (fun σ H3 => ∃ many : Int, 0 ≤ many ∧ many ≤ 200 ∧ σ = [some (.ref l), some (.int many), none, none, none] ∧ Step l H H3) ?_ (fun c k => ?_) (fun c => ⟨r1, a1, by omega, rfl, t02⟩)
  · rintro σ H3 ⟨many, m0, m1, rfl, t3⟩
    refine ⟨_, _, rfl, rfl, (by decide +kernel), _, _, rfl, rfl, (by decide +kernel), _, _, rfl, rfl, (by decide +kernel), ?_⟩
    refine ⟨_, rfl, _, _, rfl, rfl, (by decide +kernel), ?_⟩
    generalize hz : ((((" !#$&'()*+,-./0123456789:;<=>?\x40[]^_{|}~" : Str) ++ ("\"" : Str)) ++ ("\\" : Str)) ++ ("`" : Str)) ++ ("ABCDEFGHIJKLMNOPQRSTUVWXYZabcdefghijklmnopqrstuvwxyz" : Str) = z
    have zl : z.cps.toList.length = 94 := by rw [← hz]; decide +kernel
    have zl2 : z.length ≤ sizeLine := by rw [← hz]; decide +kernel
    have zg : ∀ c ∈ z.cps.toList, gdC c := by rw [← hz]; exact signs_ok
    refine ⟨_, rfl, l, 94, rfl, t3.feed, by decide, by decide, fun r4 H4 a4 b4 t4 => ?_⟩
    refine ⟨_, rfl, l, 93, rfl, t4.feed, by decide, by decide, fun r5 H5 a5 b5 t5 => ⟨_, _, rfl, rfl, ?_⟩⟩
    have t06 := (t3.trans t4).trans t5
    refine ⟨rfl, _, rfl, many, rfl, by omega, by omega, fun Dd fp sx hD => ?_⟩
    have nD := t06.feed.ne hD
    have hD0 := t06.free fe hD
    refine comp_range (n := many.toNat) (fun i ys σ H5 => ∃ (ss : List Str) (o : Option V), ys = ss.map V.str ∧ OnesP gdC ss ∧ ss.length = i ∧ σ = [o, some (.str z), some (.int r4), some (.int (1 + r5))] ∧ Step l H H5 ∧ H5 Dd = some (.lst ys))
      ⟨[], _, rfl, fun x mx => (List.not_mem_nil mx).elim, rfl, rfl, t06.put nD hD0, upd_same⟩ ?_ ?_ ?_
    · rintro i ys σ H5 hi ⟨ss, o, rfl, o1, l1, rfl, t5, h5⟩
      exact h5
    · rintro i ys σ H5 hi ⟨ss, o, rfl, o1, l1, rfl, t5, h5⟩
      refine nameT ?_
      obtain ⟨c, mc, hc⟩ := pickC z.cps.toList (r := (r4 + (1 + r5) * (0 + (i : Int))) % 94) (by omega) (by rw [zl]; omega)
      refine ⟨_, rfl, _, rfl, _, rfl, _, rfl, _, _, rfl, rfl, .inl ⟨by omega, by omega⟩, _, _, rfl, rfl, _, _, rfl, rfl, (by show (0 : Int) < 94; decide), _, _, _, rfl, rfl, zl2, hc, h5, ?_, ss ++ [⟨#[c]⟩], _, ?_, ones_more o1 (zg c mc), ?_, rfl, t5.put nD hD0, upd_same⟩
      · rw [List.length_map]; exact small1000 (by omega)
      · rw [List.map_append]; rfl
      · rw [List.length_append, List.length_singleton]; omega
    · rintro ys σ H5 ⟨ss, o, rfl, o1, l1, rfl, t5, h5⟩
      refine ⟨_, Dd, ss, rfl, rfl, SqL.of h5, ?_, q _ H5 ⟨?_, ?_⟩ t5⟩
      · rw [ones_sum o1]
        show ss.length + ss.length * 0 ≤ 16777216
        omega
      · rw [join_len o1]; omega
      · exact join_codes o1
  · refine ⟨(by show 6 ≤ sizeLine; decide), fun p hp => ?_⟩
    have t03 := t02.lay (o := .lst ([126, 127, 128, 129, 199, 200].map V.int)) fe hp
    have np := t02.feed.ne hp
    refine ⟨_, rfl, l, 6, rfl, t03.feed, by decide, by decide, fun r3 H3 a3 b3 t3 => ?_⟩
    obtain ⟨n3, m3, hn3⟩ := pickI [126, 127, 128, 129, 199, 200] a3 b3
    refine ⟨p, _, _, _, rfl, rfl, SqL.of (t3.keep _ _ np upd_same), hn3, k _ _ ⟨n3, ?_, ?_, rfl, t03.trans t3⟩⟩
    · simp only [List.mem_cons, List.not_mem_nil, or_false] at m3
      omega
    · simp only [List.mem_cons, List.not_mem_nil, or_false] at m3
      omega
end
end K10
namespace K10
open PySem PySem.Spec PyProof.Rows L2 K01
abbrev s_law_item : Stmt := top 39
abbrev N_law_item : List Str := ["_law_feed_here", "_law_deep", "_law_kind", "_law_many", "_law_parts", "_law_keys"]
theorem sc_law_item : FnScope N_law_item ["_law_feed_here", "_law_deep"] (defScope s_law_item) := ⟨rfl, rfl, rfl, by decide +kernel, rfl, by decide +kernel, by decide +kernel⟩
def Gd : Good := ⟨fun n => -1000000000000000000 ≤ n ∧ n ≤ 1000000000000000000, textOk, nameOk, fun n => 1 ≤ n ∧ n ≤ 999, fun ks => (∀ x ∈ ks, nameOk x) ∧ adj ltS ks, fun ks => (∀ n ∈ ks, 1 ≤ n ∧ n ≤ 999) ∧ ks.Pairwise (· < ·)⟩
def spItem (K : PySem.W.Frag) (G : Good) (d : Nat) : Sp := fun vs H Q _ => ∃ l : Addr, vs = [.ref l, .int d] ∧ Feed H l ∧ ∀ (r : V) (e : D) (H' : Hp), Itm G (d + 1) e → IsD K H' e r → Step l H H' → Q r H'
def spI (K : PySem.W.Frag) (G : Good) : Nat → Sp
  | 0 => fun _ _ _ _ => False
  | d + 1 => spItem K G d
theorem pairs_take : ∀ as bs : List D, pairsD as bs = pairsD as (bs.take as.length)
  | [], bs => by simp [pairsD]
  | a :: as, [] => by simp
  | a :: as, b :: bs => by
    simp only [pairsD, List.length_cons, List.take_succ_cons]
    rw [← pairs_take as bs]
theorem areS {K : PySem.W.Frag} {H : Hp} : ∀ xs : List Str, AreD K H (xs.map D.str) (xs.map V.str)
  | [] => rfl
  | x :: xs => ⟨.str x, xs.map V.str, rfl, rfl, areS xs⟩
theorem areI {K : PySem.W.Frag} {H : Hp} : ∀ xs : List Int, AreD K H (xs.map D.int) (xs.map V.int)
  | [] => rfl
  | x :: xs => ⟨.int x, xs.map V.int, rfl, rfl, areI xs⟩
theorem nodup_inr {zs : List Str} (h : (zs.map (Sum.inr : Str → Key)).Nodup) : zs.Nodup := by
  induction zs with
  | nil => exact .nil
  | cons z zs ih =>
    have h' := List.nodup_cons.mp h
    exact List.nodup_cons.mpr ⟨fun m => h'.1 (List.mem_map.mpr ⟨z, m, rfl⟩), ih h'.2⟩
theorem nodup_inl {zs : List Int} (h : (zs.map (Sum.inl : Int → Key)).Nodup) : zs.Nodup := by
  induction zs with
  | nil => exact .nil
  | cons z zs ih =>
    have h' := List.nodup_cons.mp h
    exact List.nodup_cons.mpr ⟨fun m => h'.1 (List.mem_map.mpr ⟨z, m, rfl⟩), ih h'.2⟩
theorem all_inr : ∀ {us : List Key} {ss : List Str}, (∀ x, x ∈ us → x ∈ ss.map Sum.inr) → ∃ zs : List Str, us = zs.map Sum.inr
  | [], _, _ => ⟨[], rfl⟩
  | u :: us, ss, h => by
    obtain ⟨s, _, rfl⟩ := List.mem_map.mp (h u List.mem_cons_self)
    obtain ⟨zs, rfl⟩ := all_inr (us := us) fun x mx => h x (List.mem_cons_of_mem _ mx)
    exact ⟨s :: zs, rfl⟩
theorem all_inl : ∀ {us : List Key} {ss : List Int}, (∀ x, x ∈ us → x ∈ ss.map Sum.inl) → ∃ zs : List Int, us = zs.map Sum.inl
  | [], _, _ => ⟨[], rfl⟩
  | u :: us, ss, h => by
    obtain ⟨s, _, rfl⟩ := List.mem_map.mp (h u List.mem_cons_self)
    obtain ⟨zs, rfl⟩ := all_inl (us := us) fun x mx => h x (List.mem_cons_of_mem _ mx)
    exact ⟨s :: zs, rfl⟩
section
variable {P : Program} {w : World} {K : PySem.W.Frag} {mg : Str → Option Value} {base : Heap} {f : Addr} {fd : FuncData}
theorem ok_item (F : Fun K "_law_item" "_law_item" s_law_item f fd) (m : Bn mg) (bd : Binds K fd ["_law_feed_here", "_law_deep"] []) (mf : mg "_law_item" = some (.ref f)) (g_law_draw : Fn P w K mg base 1 "_law_draw" ["_law_feed_here", "_law_many"] spDraw)
    (g_law_name : Fn P w K mg base 2 "_law_name" ["_law_feed_here"] (spStrD nameOk)) (g_law_text : Fn P w K mg base 2 "_law_text" ["_law_feed_here"] (spStrD textOk)) (g_law_number : Fn P w K mg base 2 "_law_number" ["_law_feed_here"] (spIntD fun n => 1 ≤ n ∧ n ≤ 999)) (g_law_whole : Fn P w K mg base 2 "_law_whole" ["_law_feed_here"] (spIntD fun n => -1000000000000000000 ≤ n ∧ n ≤ 1000000000000000000)) :
    ∀ d, FnOk P w K mg base CX0 (d + 2) f fd ["_law_feed_here", "_law_deep"] (spI K Gd d)
  | 0 => ⟨fun vs H Q E h => h.elim, fun A outer s H args us vs Q E _ _ _ _ h => h.elim⟩
  | d + 1 => by
    have g_law_item : Fn P w K mg base (d + 2) "_law_item" ["_law_feed_here", "_law_deep"] (spI K Gd d) := ⟨f, fd, ok_item F m bd mf g_law_draw g_law_name g_law_text g_law_number g_law_whole d, bd, F.kp, mf⟩
    refine F.ok sc_law_item (fun vs H Q E h => ?_) (fun cdv A outer s H vs Q E hr h => ?_)
    · obtain ⟨l, rfl, _⟩ := h
      rfl
    obtain ⟨l, rfl, fe, q⟩ := h
    refine ⟨_, (@pss_cons _ _ _ _ _ (@ps_setI _ 2 _ _ _ _ _ sc_law_item.nd rfl (by first | exact Or.inl rfl | exact Or.inr rfl) (@pe_callF _ _ _ _ _ _ _ _ _ _ g_law_draw (hr.mono (by omega)) rfl (@pa_cons _ _ _ _ _ (pv 0) (@pa_cons _ _ _ _ _ pe_int pa_nil rfl) rfl) (by decide) rfl rfl) rfl (by first | exact .inl rfl | exact .inr rfl)) (@pss_cons _ _ _ _ _ (@ps_if _ _ _ _ _ _ _ _ (@PW.pt _ _ _ (@pw_or _ _ _ _ _ _ _ (@pt_cmpR _ _ _ _ _ _ _ _ op_eq (pv 1) pe_int (nomark _)) (@pw_or1 _ _ _ _ (@pt_cmpR _ _ _ _ _ _ _ _ op_lt (pv 2) pe_int (nomark _))))) (@pss_cons _ _ _ _ _ (@ps_if _ _ _ _ _ _ _ _ (@pt_cmpR _ _ _ _ _ _ _ _ op_eq (@pe_op _ _ _ _ _ _ _ _ op_mod (pv 2) pe_int) pe_int (nomark _)) (@pss_one _ _ _ (@ps_ret _ _ _ _ (@pe_tup _ _ _ _ _ (@pa_cons _ _ _ _ _ pe_str (@pa_cons _ _ _ _ _ (@pe_callF _ _ _ _ _ _ _ _ _ _ g_law_whole (hr.mono (by omega)) rfl (@pa_cons _ _ _ _ _ (pv 0) pa_nil rfl) (by decide) rfl rfl) pa_nil rfl) rfl)))) pss_nil) (@pss_one _ _ _ (@ps_ret _ _ _ _ (@pe_tup _ _ _ _ _ (@pa_cons _ _ _ _ _ pe_str (@pa_cons _ _ _ _ _ (@pe_callF _ _ _ _ _ _ _ _ _ _ g_law_text (hr.mono (by omega)) rfl (@pa_cons _ _ _ _ _ (pv 0) pa_nil rfl) (by decide) rfl rfl) pa_nil rfl) rfl))))) pss_nil) (@pss_cons _ _ _ _ _ (@ps_if _ _ _ _ _ _ _ _ (@pt_cmpR _ _ _ _ _ _ _ _ op_eq (pv 2) pe_int (nomark _)) (@pss_one _ _ _ (@ps_ret _ _ _ _ (@pe_tup _ _ _ _ _ (@pa_cons _ _ _ _ _ pe_str (@pa_cons _ _ _ _ _ (@pe_callF _ _ _ _ _ _ _ _ _ _ g_law_number (hr.mono (by omega)) rfl (@pa_cons _ _ _ _ _ (pv 0) pa_nil rfl) (by decide) rfl rfl) (@pa_cons _ _ _ _ _ (@pe_callF _ _ _ _ _ _ _ _ _ _ g_law_item (hr.mono (by omega)) rfl (@pa_cons _ _ _ _ _ (pv 0) (@pa_cons _ _ _ _ _ (@pe_op _ _ _ _ _ _ _ _ op_sub (pv 1) pe_int) pa_nil rfl) rfl) (by decide) rfl rfl) pa_nil rfl) rfl) rfl)))) pss_nil) (@pss_cons _ _ _ _ _ (@ps_setI _ 3 _ _ _ _ _ sc_law_item.nd rfl (by first | exact Or.inl rfl | exact Or.inr rfl) (@pe_callF _ _ _ _ _ _ _ _ _ _ g_law_draw (hr.mono (by omega)) rfl (@pa_cons _ _ _ _ _ (pv 0) (@pa_cons _ _ _ _ _ pe_int pa_nil rfl) rfl) (by decide) rfl rfl) rfl (by first | exact .inl rfl | exact .inr rfl)) (@pss_cons _ _ _ _ _ (@ps_setCompI _ 4 N_law_item (defScope s_law_item) ["_law_k", "_law_feed_here", "_law_deep"] [none, some 0, some 1] _ _ _ _ _ _ _ _ _ _ _ _ _ sc_law_item.nd rfl (by first | exact Or.inl rfl | exact Or.inr rfl) rfl (@pi_range1 _ _ _ _ _ _ rfl m.range (@pa_cons _ _ _ _ _ (pv 3) pa_nil rfl) (by first | rfl | decide | (intro _; rfl) | exact .inl rfl | exact .inr rfl | assumption)) ⟨rfl, rfl, by decide +kernel, by decide +kernel⟩ (fun _ _ _ =>  (@pg_nameI _ 0 _ _ (show List.Nodup (["_law_k", "_law_feed_here", "_law_deep"] : List Str) from by decide +kernel) rfl (Or.inl rfl) (by first | exact .inl rfl | exact .inr rfl))) (fun _ _ _ =>  pts_nil) (fun _ _ _ =>  (@pe_callF _ _ _ _ _ _ _ _ _ _ g_law_item (hr.mono (by omega)) rfl (@pa_cons _ _ _ _ _ (pv 1) (@pa_cons _ _ _ _ _ (@pe_op _ _ _ _ _ _ _ _ op_sub (pv 2) pe_int) pa_nil rfl) rfl) (by decide) rfl rfl)) (by first | rfl | decide | (intro _; rfl) | exact .inl rfl | exact .inr rfl | assumption) (by first | rfl | decide | (intro _; rfl) | exact .inl rfl | exact .inr rfl | assumption) (by first | rfl | decide | (intro _; rfl) | exact .inl rfl | exact .inr rfl | assumption)) (@pss_cons _ _ _ _ _ (@ps_if _ _ _ _ _ _ _ _ (@pt_cmpR _ _ _ _ _ _ _ _ op_lt (pv 2) pe_int (nomark _)) (@pss_one _ _ _ (@ps_ret _ _ _ _ (@pe_tup _ _ _ _ _ (@pa_cons _ _ _ _ _ pe_str (@pa_cons _ _ _ _ _ (@pe_callTy _ _ _ _ _ _ _ _ _ call_tuple_of rfl m.tuple b_tuple (@pa_cons _ _ _ _ _ (pv 4) pa_nil rfl) (by first | rfl | decide | (intro _; rfl) | exact .inl rfl | exact .inr rfl | assumption) (by first | rfl | decide | (intro _; rfl) | exact .inl rfl | exact .inr rfl | assumption) (by first | rfl | decide | (intro _; rfl) | exact .inl rfl | exact .inr rfl | assumption) (by first | rfl | decide | (intro _; rfl) | exact .inl rfl | exact .inr rfl | assumption)) pa_nil rfl) rfl)))) pss_nil) (@pss_cons _ _ _ _ _ (@ps_if _ _ _ _ _ _ _ _ (@pt_cmpR _ _ _ _ _ _ _ _ op_lt (pv 2) pe_int (nomark _)) (@pss_cons _ _ _ _ _ (@ps_setI _ 5 _ _ _ _ _ sc_law_item.nd rfl (by first | exact Or.inl rfl | exact Or.inr rfl) (@pe_callB _ _ _ _ _ _ _ _ _ (call_sortedS rfl) rfl m.sorted b_sorted (@pa_cons _ _ _ _ _ (@pe_callTy _ _ _ _ _ _ _ _ _ (call_setK rfl) rfl m.set b_set (@pa_cons _ _ _ _ _ (@pe_compI _ N_law_item (defScope s_law_item) ["_law_k", "_law_feed_here"] [none, some 0] _ _ _ _ _ _ _ _ _ _ rfl (@pi_range1 _ _ _ _ _ _ rfl m.range (@pa_cons _ _ _ _ _ (pv 3) pa_nil rfl) (by first | rfl | decide | (intro _; rfl) | exact .inl rfl | exact .inr rfl | assumption)) ⟨rfl, rfl, by decide +kernel, by decide +kernel⟩ (fun _ _ _ =>  (@pg_nameI _ 0 _ _ (show List.Nodup (["_law_k", "_law_feed_here"] : List Str) from by decide +kernel) rfl (Or.inl rfl) (by first | exact .inl rfl | exact .inr rfl))) (fun _ _ _ =>  pts_nil) (fun _ _ _ =>  (@pe_callF _ _ _ _ _ _ _ _ _ _ g_law_name (hr.mono (by omega)) rfl (@pa_cons _ _ _ _ _ (pv 1) pa_nil rfl) (by decide) rfl rfl)) (by first | rfl | decide | (intro _; rfl) | exact .inl rfl | exact .inr rfl | assumption)) pa_nil rfl) (by first | rfl | decide | (intro _; rfl) | exact .inl rfl | exact .inr rfl | assumption) (by first | rfl | decide | (intro _; rfl) | exact .inl rfl | exact .inr rfl | assumption) (by first | rfl | decide | (intro _; rfl) | exact .inl rfl | exact .inr rfl | assumption) (by first | rfl | decide | (intro _; rfl) | exact .inl rfl | exact .inr rfl | assumption)) pa_nil rfl) (by decide) (by decide) rfl rfl) rfl (by first | exact .inl rfl | exact .inr rfl)) (@pss_one _ _ _ (@ps_ret _ _ _ _ (@pe_tup _ _ _ _ _ (@pa_cons _ _ _ _ _ pe_str (@pa_cons _ _ _ _ _ (@pe_callTy _ _ _ _ _ _ _ _ _ call_tuple_of rfl m.tuple b_tuple (@pa_cons _ _ _ _ _ (@pe_listZip _ _ _ _ _ _ _ _ rfl rfl m.list rfl m.zip (@pa_cons _ _ _ _ _ (pv 5) (@pa_cons _ _ _ _ _ (pv 4) pa_nil rfl) rfl) (by first | rfl | decide | (intro _; rfl) | exact .inl rfl | exact .inr rfl | assumption) (by first | rfl | decide | (intro _; rfl) | exact .inl rfl | exact .inr rfl | assumption) (by first | rfl | decide | (intro _; rfl) | exact .inl rfl | exact .inr rfl | assumption)) pa_nil rfl) (by first | rfl | decide | (intro _; rfl) | exact .inl rfl | exact .inr rfl | assumption) (by first | rfl | decide | (intro _; rfl) | exact .inl rfl | exact .inr rfl | assumption) (by first | rfl | decide | (intro _; rfl) | exact .inl rfl | exact .inr rfl | assumption) (by first | rfl | decide | (intro _; rfl) | exact .inl rfl | exact .inr rfl | assumption)) pa_nil rfl) rfl))))) pss_nil) (@pss_cons _ _ _ _ _ (@ps_setI _ 5 _ _ _ _ _ sc_law_item.nd rfl (by first | exact Or.inl rfl | exact Or.inr rfl) (@pe_callB _ _ _ _ _ _ _ _ _ (call_sortedI rfl) rfl m.sorted b_sorted (@pa_cons _ _ _ _ _ (@pe_callTy _ _ _ _ _ _ _ _ _ (call_setK rfl) rfl m.set b_set (@pa_cons _ _ _ _ _ (@pe_compI _ N_law_item (defScope s_law_item) ["_law_k", "_law_feed_here"] [none, some 0] _ _ _ _ _ _ _ _ _ _ rfl (@pi_range1 _ _ _ _ _ _ rfl m.range (@pa_cons _ _ _ _ _ (pv 3) pa_nil rfl) (by first | rfl | decide | (intro _; rfl) | exact .inl rfl | exact .inr rfl | assumption)) ⟨rfl, rfl, by decide +kernel, by decide +kernel⟩ (fun _ _ _ =>  (@pg_nameI _ 0 _ _ (show List.Nodup (["_law_k", "_law_feed_here"] : List Str) from by decide +kernel) rfl (Or.inl rfl) (by first | exact .inl rfl | exact .inr rfl))) (fun _ _ _ =>  pts_nil) (fun _ _ _ =>  (@pe_callF _ _ _ _ _ _ _ _ _ _ g_law_number (hr.mono (by omega)) rfl (@pa_cons _ _ _ _ _ (pv 1) pa_nil rfl) (by decide) rfl rfl)) (by first | rfl | decide | (intro _; rfl) | exact .inl rfl | exact .inr rfl | assumption)) pa_nil rfl) (by first | rfl | decide | (intro _; rfl) | exact .inl rfl | exact .inr rfl | assumption) (by first | rfl | decide | (intro _; rfl) | exact .inl rfl | exact .inr rfl | assumption) (by first | rfl | decide | (intro _; rfl) | exact .inl rfl | exact .inr rfl | assumption) (by first | rfl | decide | (intro _; rfl) | exact .inl rfl | exact .inr rfl | assumption)) pa_nil rfl) (by decide) (by decide) rfl rfl) rfl (by first | exact .inl rfl | exact .inr rfl)) (@pss_one _ _ _ (@ps_ret _ _ _ _ (@pe_tup _ _ _ _ _ (@pa_cons _ _ _ _ _ pe_str (@pa_cons _ _ _ _ _ (@pe_callTy _ _ _ _ _ _ _ _ _ call_tuple_of rfl m.tuple b_tuple (@pa_cons _ _ _ _ _ (@pe_listZip _ _ _ _ _ _ _ _ rfl rfl m.list rfl m.zip (@pa_cons _ _ _ _ _ (pv 5) (@pa_cons _ _ _ _ _ (pv 4) pa_nil rfl) rfl) (by first | rfl | decide | (intro _; rfl) | exact .inl rfl | exact .inr rfl | assumption) (by first | rfl | decide | (intro _; rfl) | exact .inl rfl | exact .inr rfl | assumption) (by first | rfl | decide | (intro _; rfl) | exact .inl rfl | exact .inr rfl | assumption)) pa_nil rfl) (by first | rfl | decide | (intro _; rfl) | exact .inl rfl | exact .inr rfl | assumption) (by first | rfl | decide | (intro _; rfl) | exact .inl rfl | exact .inr rfl | assumption) (by first | rfl | decide | (intro _; rfl) | exact .inl rfl | exact .inr rfl | assumption) (by first | rfl | decide | (intro _; rfl) | exact .inl rfl | exact .inr rfl | assumption)) pa_nil rfl) rfl)))))))))))), ?_⟩
    refine ⟨_, rfl, l, 9, rfl, fe, by decide, by decide, fun kind H1 k0 k9 t1 => ?_⟩
    refine ⟨_, rfl, rfl, _, rfl, ?_⟩
    refine ite2 (fun c => ?_) (fun c => ?_)
    · refine ⟨_, rfl, _, _, rfl, rfl, (by show (0 : Int) < 2; decide), rfl, _, rfl, ?_⟩
      refine ite2 (fun c9 => ?_) (fun c9 => ?_)
      · refine ⟨_, rfl, l, rfl, t1.feed, fun n H2 pn t2 => ⟨(by show 2 ≤ sizeLine; decide), fun p hp => ?_⟩⟩
        exact q _ (.tup [.str "whole", .int n]) _ (.inl ⟨n, rfl, pn⟩) ⟨p, _, rfl, SqT.of upd_same, AreD.two rfl rfl⟩ ((t1.trans t2).lay fe hp)
      · refine ⟨_, rfl, l, rfl, t1.feed, fun x H2 px t2 => ⟨(by show 2 ≤ sizeLine; decide), fun p hp => ?_⟩⟩
        exact q _ (.tup [.str "text", .str x]) _ (.inr (.inl ⟨x, rfl, px⟩)) ⟨p, _, rfl, SqT.of upd_same, AreD.two rfl rfl⟩ ((t1.trans t2).lay fe hp)
    · refine ⟨_, rfl, _, _, rfl, rfl, _, rfl, ?_⟩
      refine ite2 (fun c2 => ?_) (fun c2 => ?_)
      · refine ⟨_, rfl, _, _, rfl, rfl, (by show (0 : Int) < 2; decide), rfl, _, rfl, ?_⟩
        refine ite2 (fun c9 => ?_) (fun c9 => ?_)
        · refine ⟨_, rfl, l, rfl, t1.feed, fun n H2 pn t2 => ⟨(by show 2 ≤ sizeLine; decide), fun p hp => ?_⟩⟩
          exact q _ (.tup [.str "whole", .int n]) _ (.inl ⟨n, rfl, pn⟩) ⟨p, _, rfl, SqT.of upd_same, AreD.two rfl rfl⟩ ((t1.trans t2).lay fe hp)
        · refine ⟨_, rfl, l, rfl, t1.feed, fun x H2 px t2 => ⟨(by show 2 ≤ sizeLine; decide), fun p hp => ?_⟩⟩
          exact q _ (.tup [.str "text", .str x]) _ (.inr (.inl ⟨x, rfl, px⟩)) ⟨p, _, rfl, SqT.of upd_same, AreD.two rfl rfl⟩ ((t1.trans t2).lay fe hp)
      · have d0 : d ≠ 0 := fun z => by
          subst z
          exact c rfl
        obtain ⟨d', rfl⟩ : ∃ d', d = d' + 1 := ⟨d - 1, by omega⟩
        have ed : ((d' + 1 : Nat) : Int) - 1 = (d' : Nat) := by omega
        refine ⟨_, rfl, rfl, _, rfl, ?_⟩
        refine ite2 (fun c3 => ?_) (fun c3 => ?_)
        ·
          refine ⟨_, rfl, l, rfl, t1.feed, fun n H2 pn t2 => ?_⟩
          refine ⟨_, rfl, _, rfl, _, _, rfl, rfl, l, ?_, t2.feed, fun r e H3 ie de t3 => ?_⟩
          · rw [← ed]; rfl
          refine ⟨(by show 3 ≤ sizeLine; decide), fun p hp => ?_⟩
          have t13 := (t1.trans t2).trans t3
          refine q _ (.tup [.str "arm", .int n, e]) _ (.inr (.inr (.inl ⟨n, e, rfl, pn, ie⟩))) ⟨p, _, rfl, SqT.of upd_same, _, _, rfl, rfl, _, _, rfl, rfl, AreD.one (IsD.up (up_put hp) _ _ ie.noL de)⟩ (t13.lay fe hp)
        · refine ⟨_, rfl, l, 4, rfl, t1.feed, by decide, by decide, fun many H2 m0 m4 t2 => ?_⟩
          have t12 := t1.trans t2
          refine ⟨_, rfl, many, rfl, by omega, by omega, fun Dd fp sx hD => ?_⟩
          have nD := t12.feed.ne hD
          have hD0 := t12.free fe hD
          refine comp_range (n := many.toNat) (fun i ys σ H5 => ∃ (es : List D) (o : Option V), σ = [o, some (.ref l), some (.int (d' + 1 : Nat))] ∧ (∀ e ∈ es, Itm Gd (d' + 1) e) ∧ es.length = i ∧ AreD K H5 es ys ∧ Step l H H5 ∧ H5 Dd = some (.lst ys))
            ⟨[], _, rfl, (fun x mx => (List.not_mem_nil mx).elim), rfl, rfl, t12.put nD hD0, upd_same⟩ ?_ ?_ ?_
          · rintro i ys σ H5 hi ⟨es, o, rfl, ie, le, ae, t5, h5⟩
            exact h5
          · rintro i ys σ H5 hi ⟨es, o, rfl, ie, le, ae, t5, h5⟩
            refine nameT ?_
            refine ⟨_, rfl, _, rfl, _, _, rfl, rfl, l, ?_, t5.feed, fun r e H6 ir dr t6 => ?_⟩
            · rw [← ed]; rfl
            have h6 := t6.keep _ _ nD h5
            refine ⟨h6, ?_, es ++ [e], _, rfl, ?_, ?_, AreD.append (AreD.up ((t6.up t5.feed).trans (up_set h6)) _ _ (Itm.noLs ie) ae) (AreD.one (IsD.up (up_set h6) _ _ ir.noL dr)), (t5.trans t6).put nD hD0, upd_same⟩
            · rw [← ae.length]; exact small1000 (by omega)
            · intro x mx
              rcases List.mem_append.mp mx with mx | mx
              · exact ie x mx
              · rw [List.mem_singleton.mp mx]; exact ir
            · rw [List.length_append, List.length_singleton]; omega
          · rintro ys σ5 H5 ⟨es, o5, rfl, ie, le, ae, t5, h5⟩
            have ly := ae.length
            have l3 : es.length ≤ 3 := by omega
            refine ⟨_, rfl, _, _, rfl, rfl, _, rfl, ?_⟩
            refine ite2 (fun c4 => ?_) (fun c4 => ?_)
            ·
              refine ⟨_, rfl, Dd, ys, rfl, .inl ⟨SqL.of h5, fun p1 hp1 => ?_⟩⟩
              refine ⟨(by show 2 ≤ sizeLine; decide), fun p hp => ?_⟩
              have t6 := t5.lay (o := .tup ys) fe hp1
              refine q _ (.tup [.str "row", .tup es]) _ (.inr (.inr (.inr (.inl ⟨es, rfl, l3, ie⟩)))) ⟨p, _, rfl, SqT.of upd_same, AreD.two rfl ⟨p1, ys, rfl, up_put hp _ _ (SqT.of upd_same), AreD.up ((up_put hp1).trans (up_put hp)) _ _ (Itm.noLs ie) ae⟩⟩ (t6.lay fe hp)
            · refine ⟨_, rfl, _, _, rfl, rfl, _, rfl, ?_⟩
              refine ite2 (fun c5 => ?_) (fun c5 => ?_)
              ·
                refine ⟨_, rfl, many, rfl, by omega, by omega, fun D2 fp2 sx2 hD2 => ?_⟩
                have nD2 := t5.feed.ne hD2
                have hD20 := t5.free fe hD2
                refine comp_range (n := many.toNat) (fun i zs σ H7 => ∃ (ss : List Str) (o : Option V), σ = [o, some (.ref l)] ∧ zs = ss.map V.str ∧ ss.length = i ∧ (∀ x ∈ ss, nameOk x) ∧ Step l H5 H7 ∧ H7 D2 = some (.lst zs))
                  ⟨[], _, rfl, rfl, rfl, (fun x mx => (List.not_mem_nil mx).elim), (Step.refl t5.feed).put nD2 hD2, upd_same⟩ ?_ ?_ ?_
                · rintro i zs σ H7 hi ⟨ss, o, rfl, rfl, ls, ps, t7, h7⟩
                  exact h7
                · rintro i zs σ H7 hi ⟨ss, o, rfl, rfl, ls, ps, t7, h7⟩
                  refine nameT ?_
                  refine ⟨_, rfl, l, rfl, t7.feed, fun x H8 px t8 => ?_⟩
                  refine ⟨t8.keep _ _ nD2 h7, ?_, ss ++ [x], _, rfl, ?_, ?_, ?_, (t7.trans t8).put nD2 hD2, upd_same⟩
                  · rw [List.length_map]; exact small1000 (by omega)
                  · rw [List.map_append]; rfl
                  · rw [List.length_append, List.length_singleton]; omega
                  · intro y my
                    rcases List.mem_append.mp my with my | my
                    · exact ps y my
                    · rw [List.mem_singleton.mp my]; exact px
                · rintro zs σ7 H7 ⟨ss, o7, rfl, rfl, ls, ps, t7, h7⟩
                  refine ⟨D2, ss.map Sum.inr, rfl, SqL.of (by rw [h7, List.map_map]; rfl), ?_, fun S us hS nu mu lu => ?_⟩
                  · rw [List.length_map]; show ss.length + 1 < scanBound; exact Nat.lt_of_le_of_lt (show ss.length + 1 ≤ 10 by omega) (by decide)
                  obtain ⟨zs, rfl⟩ := all_inr (ss := ss) fun x mx => (mu x).mp mx
                  have lz : zs.length ≤ ss.length := by simpa using lu
                  refine ⟨S, zs, rfl, upd_same, by omega, fun L ns hL pm sd => ?_⟩
                  have t8 := t7.lay (o := SetHO P w S (zs.map Sum.inr)) t5.feed hS
                  have t9 := t8.lay (o := .lst (ns.map V.str)) t5.feed hL
                  have h9 : upd (upd H7 S (SetHO P w S (zs.map Sum.inr))) L (.lst (ns.map V.str)) Dd = some (.lst ys) := t9.keep _ _ nD h5
                  have a9 := AreD.up (K := K) (t9.up t5.feed) es ys (Itm.noLs ie) ae
                  have ln : ns.length ≤ es.length := by rw [pm.length_eq]; omega
                  refine ⟨_, rfl, _, rfl, L, Dd, _, _, rfl, SqL.of upd_same, SqL.of h9, fun Z as H10 hZ s10 h10 at10 => ?_⟩
                  have a10 : AreD K H10 (pairsD (ns.map D.str) (es.take ns.length)) (as.map V.ref) := by
                    have := AreD.pairs (K := K) at10 (areS ns) (AreD.up s10.up _ _ (Itm.noLs ie) a9)
                    rw [pairs_take, List.length_map] at this
                    exact this
                  refine ⟨Z, _, rfl, .inl ⟨SqL.of h10, fun p1 hp1 => ?_⟩⟩
                  refine ⟨(by show 2 ≤ sizeLine; decide), fun p hp => ?_⟩
                  have t10 := (t5.trans t9).same s10
                  have t11 := t10.lay (o := .tup (as.map V.ref)) fe hp1
                  have ie' : ∀ e ∈ es.take ns.length, Itm Gd (d' + 1) e := fun e me => ie e (List.mem_of_mem_take me)
                  have np : noLs (pairsD (ns.map D.str) (es.take ns.length)) = true := noLs_pairs (fun d m => by obtain ⟨x, _, rfl⟩ := List.mem_map.mp m; rfl) fun e m => (ie' e m).noL
                  refine q _ (.tup [.str "map", .tup (pairsD (ns.map D.str) (es.take ns.length))]) _ (.inr (.inr (.inr (.inr (.inl ⟨ns, es.take ns.length, rfl, ?_, ?_, ⟨fun x mx => ?_, ?_⟩, ie'⟩))))) ⟨p, _, rfl, SqT.of upd_same, AreD.two rfl ⟨p1, _, rfl, up_put hp _ _ (SqT.of upd_same), AreD.up ((up_put hp1).trans (up_put hp)) _ _ np a10⟩⟩ (t11.lay fe hp)
                  · rw [List.length_take]; omega
                  · rw [List.length_take]; omega
                  · obtain ⟨y, my, ey⟩ := List.mem_map.mp ((mu (Sum.inr x)).mp (List.mem_map.mpr ⟨x, pm.mem_iff.mp mx, rfl⟩))
                    cases ey
                    exact ps x my
                  · exact sortedS_adj sd (pm.nodup_iff.mpr (nodup_inr nu))
              ·
                refine ⟨_, rfl, many, rfl, by omega, by omega, fun D2 fp2 sx2 hD2 => ?_⟩
                have nD2 := t5.feed.ne hD2
                have hD20 := t5.free fe hD2
                refine comp_range (n := many.toNat) (fun i zs σ H7 => ∃ (ss : List Int) (o : Option V), σ = [o, some (.ref l)] ∧ zs = ss.map V.int ∧ ss.length = i ∧ (∀ x ∈ ss, 1 ≤ x ∧ x ≤ 999) ∧ Step l H5 H7 ∧ H7 D2 = some (.lst zs))
                  ⟨[], _, rfl, rfl, rfl, (fun x mx => (List.not_mem_nil mx).elim), (Step.refl t5.feed).put nD2 hD2, upd_same⟩ ?_ ?_ ?_
                · rintro i zs σ H7 hi ⟨ss, o, rfl, rfl, ls, ps, t7, h7⟩
                  exact h7
                · rintro i zs σ H7 hi ⟨ss, o, rfl, rfl, ls, ps, t7, h7⟩
                  refine nameT ?_
                  refine ⟨_, rfl, l, rfl, t7.feed, fun x H8 px t8 => ?_⟩
                  refine ⟨t8.keep _ _ nD2 h7, ?_, ss ++ [x], _, rfl, ?_, ?_, ?_, (t7.trans t8).put nD2 hD2, upd_same⟩
                  · rw [List.length_map]; exact small1000 (by omega)
                  · rw [List.map_append]; rfl
                  · rw [List.length_append, List.length_singleton]; omega
                  · intro y my
                    rcases List.mem_append.mp my with my | my
                    · exact ps y my
                    · rw [List.mem_singleton.mp my]; exact px
                · rintro zs σ7 H7 ⟨ss, o7, rfl, rfl, ls, ps, t7, h7⟩
                  refine ⟨D2, ss.map Sum.inl, rfl, SqL.of (by rw [h7, List.map_map]; rfl), ?_, fun S us hS nu mu lu => ?_⟩
                  · rw [List.length_map]; show ss.length + 1 < scanBound; exact Nat.lt_of_le_of_lt (show ss.length + 1 ≤ 10 by omega) (by decide)
                  obtain ⟨zs, rfl⟩ := all_inl (ss := ss) fun x mx => (mu x).mp mx
                  have lz : zs.length ≤ ss.length := by simpa using lu
                  refine ⟨S, zs, rfl, upd_same, by omega, fun L ns hL pm sd => ?_⟩
                  have t8 := t7.lay (o := SetHO P w S (zs.map Sum.inl)) t5.feed hS
                  have t9 := t8.lay (o := .lst (ns.map V.int)) t5.feed hL
                  have h9 : upd (upd H7 S (SetHO P w S (zs.map Sum.inl))) L (.lst (ns.map V.int)) Dd = some (.lst ys) := t9.keep _ _ nD h5
                  have a9 := AreD.up (K := K) (t9.up t5.feed) es ys (Itm.noLs ie) ae
                  have ln : ns.length ≤ es.length := by rw [pm.length_eq]; omega
                  refine ⟨_, rfl, _, rfl, L, Dd, _, _, rfl, SqL.of upd_same, SqL.of h9, fun Z as H10 hZ s10 h10 at10 => ?_⟩
                  have a10 : AreD K H10 (pairsD (ns.map D.int) (es.take ns.length)) (as.map V.ref) := by
                    have := AreD.pairs (K := K) at10 (areI ns) (AreD.up s10.up _ _ (Itm.noLs ie) a9)
                    rw [pairs_take, List.length_map] at this
                    exact this
                  refine ⟨Z, _, rfl, .inl ⟨SqL.of h10, fun p1 hp1 => ?_⟩⟩
                  refine ⟨(by show 2 ≤ sizeLine; decide), fun p hp => ?_⟩
                  have t10 := (t5.trans t9).same s10
                  have t11 := t10.lay (o := .tup (as.map V.ref)) fe hp1
                  have ie' : ∀ e ∈ es.take ns.length, Itm Gd (d' + 1) e := fun e me => ie e (List.mem_of_mem_take me)
                  have np : noLs (pairsD (ns.map D.int) (es.take ns.length)) = true := noLs_pairs (fun d m => by obtain ⟨x, _, rfl⟩ := List.mem_map.mp m; rfl) fun e m => (ie' e m).noL
                  refine q _ (.tup [.str "rec", .tup (pairsD (ns.map D.int) (es.take ns.length))]) _ (.inr (.inr (.inr (.inr (.inr ⟨ns, es.take ns.length, rfl, ?_, ?_, ⟨fun x mx => ?_, ?_⟩, ie'⟩))))) ⟨p, _, rfl, SqT.of upd_same, AreD.two rfl ⟨p1, _, rfl, up_put hp _ _ (SqT.of upd_same), AreD.up ((up_put hp1).trans (up_put hp)) _ _ np a10⟩⟩ (t11.lay fe hp)
                  · rw [List.length_take]; omega
                  · rw [List.length_take]; omega
                  · obtain ⟨y, my, ey⟩ := List.mem_map.mp ((mu (Sum.inl x)).mp (List.mem_map.mpr ⟨x, pm.mem_iff.mp mx, rfl⟩))
                    cases ey
                    exact ps x my
                  · exact sortedI_adj sd (pm.nodup_iff.mpr (nodup_inl nu))
end
end K10
set_option Elab.async false
set_option linter.all false
set_option maxRecDepth 100000
namespace K03
def Lf : Nat → Int → List Int
  | 0, n => [n]
  | k + 1, n => if 128 ≤ n then (n % 128 + 128) :: Lf k (n / 128) else [n]
theorem Lf_small (k : Nat) {n : Int} (h : n < 128) : Lf k n = [n] := by
  cases k with
  | zero => rfl
  | succ k => simp only [Lf]; rw [if_neg (by omega)]
theorem Lf_big (k : Nat) {n : Int} (h : 128 ≤ n) : Lf (k + 1) n = (n % 128 + 128) :: Lf k (n / 128) := by
  simp only [Lf]; rw [if_pos h]
theorem pow_step (k : Nat) : (128 : Int) ^ (k + 1 + 1) = 128 * 128 ^ (k + 1) := by rw [Int.pow_succ (128 : Int) (k + 1), Int.mul_comm]
theorem div_lt {n : Int} {k : Nat} (h : n < 128 ^ (k + 1 + 1)) : n / 128 < 128 ^ (k + 1) := by
  rw [pow_step] at h
  generalize (128 : Int) ^ (k + 1) = p at h ⊢
  omega
theorem more {n : Int} {k : Nat} (h : 128 ≤ n) (h2 : n < 128 ^ (k + 1)) : ∃ j, k = j + 1 := by
  cases k with
  | zero => simp at h2; omega
  | succ k => exact ⟨k, rfl⟩
theorem Lf_len : ∀ (k : Nat) (n : Int), (Lf k n).length ≤ k + 1
  | 0, n => by simp [Lf]
  | k + 1, n => by
    simp only [Lf]
    split
    · have := Lf_len k (n / 128)
      simp only [List.length_cons]; omega
    · simp
theorem p20 : (128 : Int) ^ (19 + 1) = 1393796574908163946345982392040522594123776 := by decide
end K03
set_option Elab.async false
set_option linter.all false
set_option maxRecDepth 100000
namespace K10
open PySem PySem.Spec PyProof.Rows L2 K01
inductive Lb where
  | no | key (x : Str) | num (n : Int)
inductive IT where
  | whole (n : Int) | text (x : Str) | arm (n : Int) (e : IT) | lst (s : Nat) (ls : List Lb) (es : List IT)
def srt : Nat → Str
  | 0 => "row"
  | 1 => "map"
  | _ => "rec"
def prtD : Lb → D → D
  | .no, d => d
  | .key x, d => .tup [.str x, d]
  | .num n, d => .tup [.int n, d]
def prtDs : List Lb → List D → List D
  | l :: ls, d :: ds => prtD l d :: prtDs ls ds
  | _, _ => []
mutual
def toD : IT → D
  | .whole n => .tup [.str "whole", .int n]
  | .text x => .tup [.str "text", .str x]
  | .arm n e => .tup [.str "arm", .int n, toD e]
  | .lst s ls es => .tup [.str (srt s), .tup (prtDs ls (toDs es))]
def toDs : List IT → List D
  | [] => []
  | e :: es => toD e :: toDs es
end
def codes (x : Str) : List Int := x.cps.toList.map fun c : Nat => (c : Int)
def Lg (n : Int) : List Int := K03.Lf 19 n
def fold (n : Int) : Int := if 0 ≤ n then 2 * n else -2 * n - 1
def sgB (x : Str) : List Int := Lg x.length ++ codes x
def lbB : Lb → List Int
  | .no => []
  | .key x => sgB x
  | .num n => Lg n
mutual
def byI : IT → List Int
  | .whole n => 0 :: Lg (fold n)
  | .text x => 1 :: sgB x
  | .arm n e => 5 :: (Lg n ++ byI e)
  | .lst s ls es => ((s : Int) + 2) :: (Lg (byIs ls es).length ++ byIs ls es)
def byIs : List Lb → List IT → List Int
  | l :: ls, e :: es => lbB l ++ byI e ++ byIs ls es
  | _, _ => []
end
mutual
def dpI : IT → Nat
  | .whole _ => 1
  | .text _ => 1
  | .arm _ e => dpI e + 1
  | .lst _ _ es => dpIs es + 1
def dpIs : List IT → Nat
  | [] => 0
  | e :: es => max (dpI e) (dpIs es)
end
theorem dpI_mem : ∀ {es : List IT} {e : IT}, e ∈ es → dpI e ≤ dpIs es
  | a :: es, e, m => by
    rcases List.mem_cons.mp m with rfl | m
    · simp only [dpIs]; omega
    · have := dpI_mem m
      simp only [dpIs]; omega
def GdL : Nat → List Lb → Prop
  | 0, ls => ∀ l ∈ ls, l = .no
  | 1, ls => ∃ ks : List Str, ls = ks.map Lb.key ∧ (∀ x ∈ ks, nameOk x) ∧ adj ltS ks
  | _, ls => ∃ ks : List Int, ls = ks.map Lb.num ∧ (∀ n ∈ ks, 1 ≤ n ∧ n ≤ 999) ∧ ks.Pairwise (· < ·)
mutual
def GdI : IT → Prop
  | .whole n => -1000000000000000000 ≤ n ∧ n ≤ 1000000000000000000
  | .text x => textOk x
  | .arm n e => 1 ≤ n ∧ n ≤ 999 ∧ GdI e
  | .lst s ls es => s ≤ 2 ∧ ls.length = es.length ∧ GdL s ls ∧ GdIs es
def GdIs : List IT → Prop
  | [] => True
  | e :: es => GdI e ∧ GdIs es
end
theorem GdIs_all : ∀ {es : List IT}, GdIs es ↔ ∀ e ∈ es, GdI e
  | [] => ⟨fun _ t m => (List.not_mem_nil m).elim, fun _ => trivial⟩
  | a :: ts => by
    constructor
    · rintro ⟨h1, h2⟩ t m
      rcases List.mem_cons.mp m with rfl | m
      · exact h1
      · exact GdIs_all.mp h2 t m
    · intro h
      exact ⟨h a List.mem_cons_self, GdIs_all.mpr fun t m => h t (List.mem_cons_of_mem _ m)⟩
theorem toDs_map : ∀ es : List IT, toDs es = es.map toD
  | [] => rfl
  | d :: ds => by simp only [toDs, List.map_cons, toDs_map ds]
theorem prtDs_len : ∀ {ls : List Lb} {ds : List D}, ls.length = ds.length → (prtDs ls ds).length = ds.length
  | [], [], _ => rfl
  | l :: ls, d :: ds, h => by simp only [prtDs, List.length_cons, prtDs_len (Nat.succ.inj h)]
mutual
theorem toD_noL : ∀ it : IT, noL (toD it) = true
  | .whole _ => rfl
  | .text _ => rfl
  | .arm n e => by simp only [toD, noL, noLs, Bool.true_and, Bool.and_true]; exact toD_noL e
  | .lst s ls es => by
    simp only [toD, noL, noLs, Bool.true_and, Bool.and_true]
    exact prts_noL ls es
theorem prts_noL : ∀ (ls : List Lb) (es : List IT), noLs (prtDs ls (toDs es)) = true
  | [], _ => by simp [prtDs, noLs]
  | _ :: _, [] => by simp [toDs, prtDs, noLs]
  | l :: ls, e :: es => by
    simp only [toDs, prtDs, noLs, Bool.and_eq_true]
    refine ⟨?_, prts_noL ls es⟩
    cases l with
    | no => exact toD_noL e
    | key x => simp only [prtD, noL, noLs, Bool.true_and, Bool.and_true]; exact toD_noL e
    | num n => simp only [prtD, noL, noLs, Bool.true_and, Bool.and_true]; exact toD_noL e
end
theorem isD2 {K : PySem.W.Frag} {H : Hp} {a b : D} {v : V} (h : IsD K H (.tup [a, b]) v) : ∃ p x y, v = .ref p ∧ SqT K H p [x, y] ∧ IsD K H a x ∧ IsD K H b y := by
  obtain ⟨p, vs, rfl, q, x, r, rfl, i1, y, r2, rfl, i2, e⟩ := h
  have e' : r2 = [] := e
  subst e'
  exact ⟨p, x, y, rfl, q, i1, i2⟩
theorem isD3 {K : PySem.W.Frag} {H : Hp} {a b c : D} {v : V} (h : IsD K H (.tup [a, b, c]) v) : ∃ p x y z, v = .ref p ∧ SqT K H p [x, y, z] ∧ IsD K H a x ∧ IsD K H b y ∧ IsD K H c z := by
  obtain ⟨p, vs, rfl, q, x, r, rfl, i1, y, r2, rfl, i2, z, r3, rfl, i3, e⟩ := h
  have e' : r3 = [] := e
  subst e'
  exact ⟨p, x, y, z, rfl, q, i1, i2, i3⟩
theorem Lg_len (n : Int) : (Lg n).length ≤ 20 := K03.Lf_len 19 n
theorem lt20 {n : Int} (h : n ≤ 10000000000000000000) : n < 128 ^ (19 + 1) := by rw [K03.p20]; omega
theorem fold_nn (n : Int) : 0 ≤ fold n := by unfold fold; split <;> omega
theorem fold_le {n : Int} (h1 : -1000000000000000000 ≤ n) (h2 : n ≤ 1000000000000000000) : fold n ≤ 2000000000000000000 := by unfold fold; split <;> omega
theorem itm_list {k : Nat} {P : IT → Prop} : ∀ {es : List D}, (∀ e ∈ es, ∃ it, toD it = e ∧ P it) → ∃ its : List IT, its.map toD = es ∧ ∀ i ∈ its, P i
  | [], _ => ⟨[], rfl, fun _ m => (List.not_mem_nil m).elim⟩
  | e :: es, h => by
    obtain ⟨i, e1, p1⟩ := h e List.mem_cons_self
    obtain ⟨is, e2, p2⟩ := itm_list (k := k) (P := P) (es := es) fun x m => h x (List.mem_cons_of_mem _ m)
    refine ⟨i :: is, by simp [e1, e2], fun x m => ?_⟩
    rcases List.mem_cons.mp m with rfl | m
    · exact p1
    · exact p2 x m
def lnB : Nat → Nat
  | 0 => 0
  | k + 1 => 300 + 3 * lnB k
theorem prt_no : ∀ (n : Nat) (ds : List D), ds.length = n → prtDs (List.replicate n Lb.no) ds = ds
  | 0, [], _ => rfl
  | n + 1, d :: ds, h => by simp only [List.replicate_succ, prtDs, prtD, prt_no n ds (Nat.succ.inj h)]
theorem prt_key : ∀ (ks : List Str) (ds : List D), prtDs (ks.map Lb.key) ds = pairsD (ks.map D.str) ds
  | [], _ => by simp [prtDs, pairsD]
  | k :: ks, [] => by simp [prtDs, pairsD]
  | k :: ks, d :: ds => by simp only [List.map_cons, prtDs, prtD, pairsD, prt_key ks ds]
theorem prt_num : ∀ (ks : List Int) (ds : List D), prtDs (ks.map Lb.num) ds = pairsD (ks.map D.int) ds
  | [], _ => by simp [prtDs, pairsD]
  | k :: ks, [] => by simp [prtDs, pairsD]
  | k :: ks, d :: ds => by simp only [List.map_cons, prtDs, prtD, pairsD, prt_num ks ds]
theorem codes_len (x : Str) : (codes x).length = x.length := by unfold codes; rw [List.length_map]; exact Array.length_toList
theorem sgB_len (x : Str) : (sgB x).length ≤ 20 + x.length := by
  unfold sgB; rw [List.length_append, codes_len]; have := Lg_len x.length; omega
def lbOk : Lb → Prop
  | .no => True
  | .key x => x.length ≤ 8
  | .num _ => True
theorem lbB_len {l : Lb} (h : lbOk l) : (lbB l).length ≤ 28 := by
  cases l with
  | no => exact Nat.zero_le _
  | key x => have := sgB_len x; have h' : x.length ≤ 8 := h; show (sgB x).length ≤ 28; omega
  | num n => have := Lg_len n; show (Lg n).length ≤ 28; omega
theorem byIs_len {n : Nat} : ∀ {ls : List Lb} {es : List IT}, (∀ l ∈ ls, lbOk l) → (∀ e ∈ es, (byI e).length ≤ n) → (byIs ls es).length ≤ es.length * (28 + n)
  | [], es, _, _ => by simp [byIs]
  | _ :: _, [], _, _ => by simp [byIs]
  | l :: ls, e :: es, h1, h2 => by
    have a := lbB_len (h1 l List.mem_cons_self)
    have b := h2 e List.mem_cons_self
    have c := byIs_len (ls := ls) (es := es) (fun x m => h1 x (List.mem_cons_of_mem _ m)) fun x m => h2 x (List.mem_cons_of_mem _ m)
    simp only [byIs, List.length_append, List.length_cons, Nat.succ_mul]; omega
theorem dpIs_le : ∀ {es : List IT} {n : Nat}, (∀ t ∈ es, dpI t ≤ n) → dpIs es ≤ n
  | [], n, _ => Nat.zero_le _
  | t :: ts, n, h => by
    have h1 := h t List.mem_cons_self
    have h2 := dpIs_le (es := ts) fun x m => h x (List.mem_cons_of_mem _ m)
    simp only [dpIs]; omega
structure NiceI (it : IT) (k : Nat) : Prop where
  gd : GdI it
  dp : dpI it ≤ k
  ln : (byI it).length ≤ lnB k
theorem lst_nice {k : Nat} {s : Nat} {ls : List Lb} {es : List IT} (hs : s ≤ 2) (hl : ls.length = es.length) (h3 : es.length ≤ 3) (g : GdL s ls) (lo : ∀ l ∈ ls, lbOk l) (h : ∀ e ∈ es, NiceI e k) : NiceI (.lst s ls es) (k + 1) := by
  refine ⟨⟨hs, hl, g, GdIs_all.mpr fun e m => (h e m).gd⟩, ?_, ?_⟩
  · have := dpIs_le (es := es) fun e m => (h e m).dp
    simp only [dpI]; omega
  · have a := byIs_len (n := lnB k) lo fun e m => (h e m).ln
    have b : es.length * (28 + lnB k) ≤ 3 * (28 + lnB k) := Nat.mul_le_mul_right _ h3
    have c := Lg_len (byIs ls es).length
    simp only [byI, List.length_cons, List.length_append, lnB]; omega
theorem itm_it : ∀ (k : Nat) (d : D), Itm Gd k d → ∃ it, toD it = d ∧ NiceI it k
  | 0, _, h => h.elim
  | k + 1, d, h => by
    rcases h with ⟨n, rfl, g⟩ | ⟨x, rfl, g⟩ | ⟨n, e, rfl, g, i⟩ | ⟨es, rfl, l, i⟩ | ⟨ks, es, rfl, l1, l2, g, i⟩ | ⟨ks, es, rfl, l1, l2, g, i⟩
    · refine ⟨.whole n, rfl, g, by simp only [dpI]; omega, ?_⟩
      have := Lg_len (fold n)
      simp only [byI, List.length_cons, lnB]; omega
    · refine ⟨.text x, rfl, g, by simp only [dpI]; omega, ?_⟩
      have := sgB_len x
      have := g.1
      simp only [byI, List.length_cons, lnB]; omega
    · obtain ⟨it, e1, ni⟩ := itm_it k e i
      refine ⟨.arm n it, by simp only [toD, e1], ⟨g.1, g.2, ni.gd⟩, by have := ni.dp; simp only [dpI]; omega, ?_⟩
      have := Lg_len n
      have := ni.ln
      simp only [byI, List.length_cons, List.length_append, lnB]; omega
    · obtain ⟨its, e1, ni⟩ := itm_list (k := k) (P := fun it => NiceI it k) fun e m => itm_it k e (i e m)
      have el : its.length = es.length := by rw [← e1, List.length_map]
      refine ⟨.lst 0 (List.replicate es.length .no) its, ?_, lst_nice (by decide) (by rw [List.length_replicate, el]) (by omega) (fun l m => List.eq_of_mem_replicate m) (fun l m => by rw [List.eq_of_mem_replicate m]; trivial) ni⟩
      simp only [toD, srt]
      rw [toDs_map, e1, prt_no _ _ rfl]
    · obtain ⟨its, e1, ni⟩ := itm_list (k := k) (P := fun it => NiceI it k) fun e m => itm_it k e (i e m)
      have el : its.length = es.length := by rw [← e1, List.length_map]
      refine ⟨.lst 1 (ks.map Lb.key) its, ?_, lst_nice (by decide) (by rw [List.length_map, el]; exact l1) (by omega) ⟨ks, rfl, g.1, g.2⟩ (fun l m => ?_) ni⟩
      · simp only [toD, srt]
        rw [toDs_map, e1, prt_key]
      · obtain ⟨x, mx, rfl⟩ := List.mem_map.mp m
        exact (g.1 x mx).2.1
    · obtain ⟨its, e1, ni⟩ := itm_list (k := k) (P := fun it => NiceI it k) fun e m => itm_it k e (i e m)
      have el : its.length = es.length := by rw [← e1, List.length_map]
      refine ⟨.lst 2 (ks.map Lb.num) its, ?_, lst_nice (by decide) (by rw [List.length_map, el]; exact l1) (by omega) ⟨ks, rfl, g.1, g.2⟩ (fun l m => ?_) ni⟩
      · simp only [toD, srt]
        rw [toDs_map, e1, prt_num]
      · obtain ⟨x, mx, rfl⟩ := List.mem_map.mp m
        trivial
end K10
namespace K10
open PySem PySem.Spec PyProof.Rows L2 K01 K03
abbrev s_long_of : Stmt := top 13
abbrev N_long_of : List Str := ["n", "figures"]
theorem sc_long_of : FnScope N_long_of ["n"] (defScope s_long_of) := ⟨rfl, rfl, rfl, by decide +kernel, rfl, by decide +kernel, by decide +kernel⟩
abbrev s_law_long : Stmt := top 40
abbrev N_law_long : List Str := ["_law_n", "_law_found"]
theorem sc_law_long : FnScope N_law_long ["_law_n"] (defScope s_law_long) := ⟨rfl, rfl, rfl, by decide +kernel, rfl, by decide +kernel, by decide +kernel⟩
def small {n : Nat} (h : n ≤ 1000) : n ≤ sizeLine := Nat.le_of_lt (small1000 h)
def spLong : Sp := fun vs H Q _ => ∃ n : Int, vs = [.int n] ∧ 0 ≤ n ∧ n < 128 ^ (19 + 1) ∧ ∀ (r : Addr) (H' : Hp), Same H H' → H' r = some (.tup ((Lf 19 n).map V.int)) → Q (.ref r) H'
def m0 : L2.St → Nat
  | some (.int m) :: _ => m.toNat
  | _ => 0
structure Bk (b : Addr) (H H' : Hp) (zs : List V) : Prop where
  keep : ∀ x o, x ≠ b → H x = some o → H' x = some o
  at' : H' b = some (.lst zs)
theorem Bk.same {b : Addr} {H H1 H2 : Hp} {zs : List V} (s : Same H H1) (k : Bk b H1 H2 zs) : Bk b H H2 zs := ⟨fun x o n h => k.keep x o n (s _ _ h), k.at'⟩
theorem Bk.then {b : Addr} {H H1 H2 : Hp} {zs : List V} (k : Bk b H H1 zs) (s : Same H1 H2) : Bk b H H2 zs := ⟨fun x o n h => s _ _ (k.keep x o n h), s _ _ k.at'⟩
theorem Bk.trans {b : Addr} {H H1 H2 : Hp} {ys zs : List V} (k : Bk b H H1 ys) (j : Bk b H1 H2 zs) : Bk b H H2 zs := ⟨fun x o n h => j.keep x o n (k.keep x o n h), j.at'⟩
theorem Bk.up {K : PySem.W.Frag} {b : Addr} {H H' : Hp} {ys zs : List V} (k : Bk b H H' zs) (h : H b = some (.lst ys)) : Up K H H' := fun c xs q => by
  have ne : ∀ u, H c = some u → (∀ ys, u ≠ .lst ys) → c ≠ b := fun u e n z => by
    rw [z, h] at e
    cases e
    exact n _ rfl
  rcases q with (q | ⟨u, q⟩) | q
  · exact .inl (.inl (k.keep _ _ (ne _ q fun _ z => nomatch z) q))
  · exact .inl (.inr ⟨u, k.keep _ _ (ne _ q fun _ z => nomatch z) q⟩)
  · exact .inr q
def bv (l : List Int) : List V := l.map V.int
theorem bv_app (a b : List Int) : bv (a ++ b) = bv a ++ bv b := List.map_append
theorem bv_len (a : List Int) : (bv a).length = a.length := List.length_map _
structure SortsOk (K : PySem.W.Frag) (a : Addr) : Prop where
  at' : ∃ (o : Obj) (its : Array Value) (n : Nat), K.lookup a = some o ∧ o.cls = .type "tuple" ∧ o.dict = none ∧ o.data = .seq its n ∧ its.size ≤ sizeLine ∧ Vals ((["whole", "text", "row", "map", "rec", "arm"] : List Str).map V.str) its.toList
theorem SortsOk.sq {K : PySem.W.Frag} {a : Addr} (s : SortsOk K a) (H : Hp) : SqT K H a ((["whole", "text", "row", "map", "rec", "arm"] : List Str).map V.str) := by
  obtain ⟨o, its, n, h1, h2, h3, h4, h5, h6⟩ := s.at'
  exact .inr ⟨o, its, n, h1, h2, h4, h5, h6⟩
theorem SortsOk.ty {K : PySem.W.Frag} {a : Addr} (s : SortsOk K a) (H : Hp) : tyV K "tuple" (.ref a) H := by
  obtain ⟨o, its, n, h1, h2, h3, h4, h5, h6⟩ := s.at'
  exact .inr (.inl ⟨rfl, o, h1, h2, h3⟩)
section
variable {P : Program} {w : World} {K : PySem.W.Frag} {mg : Str → Option Value} {base : Heap} {f : Addr} {fd : FuncData}
theorem ok_long (F : Fun K "long_of" "long_of" s_long_of f fd) (m : Bn mg) : FnOk P w K mg base CX0 1 f fd ["n"] spLong := by
  refine F.ok sc_long_of (fun vs H Q E h => ?_) (fun cdv A outer s H vs Q E hr h => ?_)
  · obtain ⟨n, rfl, _⟩ := h
    rfl
  obtain ⟨n, rfl, h0, h1, q⟩ := h
  refine ⟨_, (@pss_cons _ _ _ _ _ (@ps_setI _ 1 _ _ _ _ _ sc_long_of.nd rfl (by first | exact Or.inl rfl | exact Or.inr rfl) (@pe_lst _ _ _ _ pa_nil) rfl (by first | exact .inl rfl | exact .inr rfl)) (@pss_cons _ _ _ _ _ (@ps_while _ _ _ _ _ _ PassesOwn.never (@pt_cmpR _ _ _ _ _ _ _ _ op_ge (pv 0) pe_int (nomark _)) (@pss_cons _ _ _ _ _ (@ps_expr _ _ _ _ (@pe_bm _ _ _ _ _ _ _ _ _ _ _ _ PySem.F.plainAttrs_list PySem.F.slot_list_append PySem.F.type_list_append mt_append (pv 1) (@pa_cons _ _ _ _ _ (@pe_op _ _ _ _ _ _ _ _ op_add (@pe_op _ _ _ _ _ _ _ _ op_mod (pv 0) pe_int) pe_int) pa_nil rfl) (by first | rfl | decide | (intro _; rfl) | exact .inl rfl | exact .inr rfl | assumption) (by first | rfl | decide | (intro _; rfl) | exact .inl rfl | exact .inr rfl | assumption) (by first | rfl | decide | (intro _; rfl) | exact .inl rfl | exact .inr rfl | assumption) (by first | rfl | decide | (intro _; rfl) | exact .inl rfl | exact .inr rfl | assumption) (by first | rfl | decide | (intro _; rfl) | exact .inl rfl | exact .inr rfl | assumption)) rfl) (@pss_one _ _ _ (@ps_setI _ 0 _ _ _ _ _ sc_long_of.nd rfl (by first | exact Or.inl rfl | exact Or.inr rfl) (@pe_op _ _ _ _ _ _ _ _ op_fdiv (pv 0) pe_int) rfl (by first | exact .inl rfl | exact .inr rfl))))) (@pss_cons _ _ _ _ _ (@ps_expr _ _ _ _ (@pe_bm _ _ _ _ _ _ _ _ _ _ _ _ PySem.F.plainAttrs_list PySem.F.slot_list_append PySem.F.type_list_append mt_append (pv 1) (@pa_cons _ _ _ _ _ (pv 0) pa_nil rfl) (by first | rfl | decide | (intro _; rfl) | exact .inl rfl | exact .inr rfl | assumption) (by first | rfl | decide | (intro _; rfl) | exact .inl rfl | exact .inr rfl | assumption) (by first | rfl | decide | (intro _; rfl) | exact .inl rfl | exact .inr rfl | assumption) (by first | rfl | decide | (intro _; rfl) | exact .inl rfl | exact .inr rfl | assumption) (by first | rfl | decide | (intro _; rfl) | exact .inl rfl | exact .inr rfl | assumption)) rfl) (@pss_one _ _ _ (@ps_ret _ _ _ _ (@pe_callTy _ _ _ _ _ _ _ _ _ call_tuple_of rfl m.tuple b_tuple (@pa_cons _ _ _ _ _ (pv 1) pa_nil rfl) (by first | rfl | decide | (intro _; rfl) | exact .inl rfl | exact .inr rfl | assumption) (by first | rfl | decide | (intro _; rfl) | exact .inl rfl | exact .inr rfl | assumption) (by first | rfl | decide | (intro _; rfl) | exact .inl rfl | exact .inr rfl | assumption) (by first | rfl | decide | (intro _; rfl) | exact .inl rfl | exact .inr rfl | assumption))))))), ?_⟩
  refine ⟨(by show 0 ≤ sizeLine; decide), fun p hp => ?_⟩
  refine while_by (fun σ H1 => ∃ (m : Int) (k : Nat) (fs : List Int), σ = [some (.int m), some (.ref p)] ∧ H1 = upd H p (.lst (fs.map V.int)) ∧ 0 ≤ m ∧ m < 128 ^ (k + 1) ∧ k + fs.length = 19 ∧ fs ++ Lf k m = Lf 19 n)
    (fun σ _ => m0 σ) ⟨n, 19, [], rfl, rfl, h0, h1, rfl, rfl⟩ ?_ ?_
  · rintro σ H1 ⟨m, k, fs, rfl, rfl, hm, hk, hl, e⟩
    have hz : (fs.map V.int).length < sizeLine := by rw [List.length_map]; exact small1000 (by omega)
    refine ⟨_, rfl, _, _, rfl, rfl, _, rfl, ?_⟩
    refine ite2 (fun c => ?_) (fun c => ?_)
    · have c' : 128 ≤ m := of_decide_eq_true c
      obtain ⟨j, rfl⟩ := more c' hk
      refine ⟨_, rfl, .inl ⟨rfl, _, SqL.of upd_same⟩, _, rfl, _, _, rfl, rfl, (by show (0 : Int) < 128; decide), _, _, rfl, rfl, p, _, _, rfl, rfl, upd_same, hz, ?_⟩
      refine ⟨_, rfl, _, _, rfl, rfl, ⟨by decide, by decide⟩, ?_⟩
      refine ⟨⟨m / 128, j, fs ++ [m % 128 + 128], rfl, ?_, by omega, div_lt hk, ?_, ?_⟩, ?_⟩
      · rw [upd_upd, List.map_append]
        rfl
      · rw [List.length_append, List.length_singleton]; omega
      · rw [← e, Lf_big j c', List.append_assoc]
        rfl
      · show (m / 128).toNat < m.toNat
        omega
    · have c' : m < 128 := by
        have := of_decide_eq_false (Bool.eq_false_iff.mpr c)
        omega
      refine ⟨_, rfl, .inl ⟨rfl, _, SqL.of upd_same⟩, _, rfl, p, _, _, rfl, rfl, upd_same, hz, ?_⟩
      refine ⟨_, rfl, p, _, rfl, .inl ⟨SqL.of upd_same, fun l hl' => ?_⟩⟩
      have s1 : Same H (upd (upd H p (.lst (fs.map V.int))) p (.lst (fs.map V.int ++ [V.int m]))) := ((Same.refl H).put hp).put hp
      refine q l _ (s1.put (s1.free hl')) ?_
      rw [upd_same, ← e, Lf_small k c', List.map_append]
      rfl
  · rintro σ H1 Q1 Q2 hq ⟨v, e, i, j, e1, e2, b, eb, q1⟩
    exact ⟨v, e, i, j, e1, e2, b, eb, hq _ _ q1⟩
theorem ok_llong (F : Fun K "_law_long" "_law_long" s_law_long f fd) (m : Bn mg) : FnOk P w K mg base CX0 1 f fd ["_law_n"] spLong := by
  refine F.ok sc_law_long (fun vs H Q E h => ?_) (fun cdv A outer s H vs Q E hr h => ?_)
  · obtain ⟨n, rfl, _⟩ := h
    rfl
  obtain ⟨n, rfl, h0, h1, q⟩ := h
  refine ⟨_, (@pss_cons _ _ _ _ _ (@ps_setI _ 1 _ _ _ _ _ sc_law_long.nd rfl (by first | exact Or.inl rfl | exact Or.inr rfl) (@pe_lst _ _ _ _ (@pa_cons _ _ _ _ _ (@pe_op _ _ _ _ _ _ _ _ op_mod (pv 0) pe_int) pa_nil rfl)) rfl (by first | exact .inl rfl | exact .inr rfl)) (@pss_cons _ _ _ _ _ (@ps_while _ _ _ _ _ _ PassesOwn.never (@pt_cmpR _ _ _ _ _ _ _ _ op_gt (pv 0) pe_int (nomark _)) (@pss_cons _ _ _ _ _ (@ps_asg _ _ _ _ _ _ (@pe_op _ _ _ _ _ _ _ _ op_add (@pe_ix _ _ _ _ _ _ _ ix_list (pv 1) (@pe_un _ _ _ _ _ _ un_neg pe_int) (fun _ _ =>  rfl)) pe_int) (@pg_sub _ _ _ _ _ _ _ (pv 1) (@pe_un _ _ _ _ _ _ un_neg pe_int) set_list (by first | rfl | decide | (intro _; rfl) | exact .inl rfl | exact .inr rfl | assumption)) (by first | rfl | decide | (intro _; rfl) | exact .inl rfl | exact .inr rfl | assumption) (by first | rfl | decide | (intro _; rfl) | exact .inl rfl | exact .inr rfl | assumption) (by first | rfl | decide | (intro _; rfl) | exact .inl rfl | exact .inr rfl | assumption)) (@pss_cons _ _ _ _ _ (@ps_setI _ 0 _ _ _ _ _ sc_law_long.nd rfl (by first | exact Or.inl rfl | exact Or.inr rfl) (@pe_op _ _ _ _ _ _ _ _ op_fdiv (pv 0) pe_int) rfl (by first | exact .inl rfl | exact .inr rfl)) (@pss_one _ _ _ (@ps_expr _ _ _ _ (@pe_bm _ _ _ _ _ _ _ _ _ _ _ _ PySem.F.plainAttrs_list PySem.F.slot_list_append PySem.F.type_list_append mt_append (pv 1) (@pa_cons _ _ _ _ _ (@pe_op _ _ _ _ _ _ _ _ op_mod (pv 0) pe_int) pa_nil rfl) (by first | rfl | decide | (intro _; rfl) | exact .inl rfl | exact .inr rfl | assumption) (by first | rfl | decide | (intro _; rfl) | exact .inl rfl | exact .inr rfl | assumption) (by first | rfl | decide | (intro _; rfl) | exact .inl rfl | exact .inr rfl | assumption) (by first | rfl | decide | (intro _; rfl) | exact .inl rfl | exact .inr rfl | assumption) (by first | rfl | decide | (intro _; rfl) | exact .inl rfl | exact .inr rfl | assumption)) rfl))))) (@pss_one _ _ _ (@ps_ret _ _ _ _ (@pe_callTy _ _ _ _ _ _ _ _ _ call_tuple_of rfl m.tuple b_tuple (@pa_cons _ _ _ _ _ (pv 1) pa_nil rfl) (by first | rfl | decide | (intro _; rfl) | exact .inl rfl | exact .inr rfl | assumption) (by first | rfl | decide | (intro _; rfl) | exact .inl rfl | exact .inr rfl | assumption) (by first | rfl | decide | (intro _; rfl) | exact .inl rfl | exact .inr rfl | assumption) (by first | rfl | decide | (intro _; rfl) | exact .inl rfl | exact .inr rfl | assumption)))))), ?_⟩
  refine ⟨_, rfl, _, _, rfl, rfl, (by show (0 : Int) < 128; decide), (by show 1 ≤ sizeLine; decide), fun p hp => ?_⟩
  refine while_by (fun σ H1 => ∃ (m : Int) (k : Nat) (fs : List Int), σ = [some (.int m), some (.ref p)] ∧ H1 = upd H p (.lst ((fs ++ [m % 128]).map V.int)) ∧ 0 ≤ m ∧ m < 128 ^ (k + 1) ∧ k + fs.length = 19 ∧ fs ++ Lf k m = Lf 19 n)
    (fun σ _ => m0 σ) ⟨n, 19, [], rfl, rfl, h0, h1, rfl, rfl⟩ ?_ ?_
  · rintro σ H1 ⟨m, k, fs, rfl, rfl, hm, hk, hl, e⟩
    refine ⟨_, rfl, _, _, rfl, rfl, _, rfl, ?_⟩
    refine ite2 (fun c => ?_) (fun c => ?_)
    · have c' : 128 ≤ m := by
        have : (127 : Int) < m := of_decide_eq_true c
        omega
      obtain ⟨j, rfl⟩ := more c' hk
      have last : atI ((fs ++ [m % 128]).map V.int) (-1) = some (.int (m % 128)) := by
        rw [List.map_append]
        exact atI_last _ _
      have lix : ixN ((fs ++ [m % 128]).map V.int).length (-1) = some fs.length := by
        rw [List.length_map, List.length_append, List.length_singleton]
        unfold ixN
        rw [if_neg (by decide), if_pos (by omega)]
        congr 1
        omega
      refine ⟨_, rfl, _, rfl, p, _, _, _, rfl, rfl, SqL.of upd_same, last, _, _, rfl, rfl, _, rfl, _, rfl, p, _, _, _, rfl, rfl, upd_same, lix, ?_⟩
      refine ⟨_, rfl, _, _, rfl, rfl, ⟨by decide, by decide⟩, ?_⟩
      refine ⟨_, rfl, .inl ⟨rfl, _, SqL.of upd_same⟩, _, rfl, _, _, rfl, rfl, (by show (0 : Int) < 128; decide), p, _, _, rfl, rfl, upd_same, ?_, ?_⟩
      · rw [List.length_set, List.length_map, List.length_append, List.length_singleton]; exact small1000 (by omega)
      · have e9 : (((fs ++ [m % 128]).map V.int).set fs.length (V.int (m % 128 + 128))) = (fs ++ [m % 128 + 128]).map V.int := by
          rw [List.map_append, List.map_append]
          have q9 := List.set_append_right (s := fs.map V.int) (t := [V.int (m % 128)]) (i := fs.length) (x := V.int (m % 128 + 128)) (by rw [List.length_map]; exact Nat.le_refl _)
          rw [List.length_map, Nat.sub_self] at q9
          exact q9
        refine ⟨⟨m / 128, j, fs ++ [m % 128 + 128], rfl, ?_, by omega, div_lt hk, ?_, ?_⟩, ?_⟩
        · rw [upd_upd, upd_upd, e9, List.map_append (l₁ := fs ++ [m % 128 + 128])]
          rfl
        · rw [List.length_append, List.length_singleton]; omega
        · rw [← e, Lf_big j c', List.append_assoc]
          rfl
        · show (m / 128).toNat < m.toNat
          omega
    · have c' : m < 128 := by
        have : ¬ (127 : Int) < m := of_decide_eq_false (Bool.eq_false_iff.mpr c)
        omega
      refine ⟨_, rfl, p, _, rfl, .inl ⟨SqL.of upd_same, fun l hl' => ?_⟩⟩
      have s1 : Same H (upd H p (.lst ((fs ++ [m % 128]).map V.int))) := (Same.refl H).put hp
      refine q l _ (s1.put (s1.free hl')) ?_
      have e8 : m % 128 = m := by omega
      rw [upd_same, ← e, Lf_small k c', e8]
  · rintro σ H1 Q1 Q2 hq ⟨v, e, i, j, e1, e2, b, eb, q1⟩
    exact ⟨v, e, i, j, e1, e2, b, eb, hq _ _ q1⟩
theorem ord_comp {H : Hp} {x : Str} {D : Addr} {fin : Hp → Prop} {o : Option V} (hl : x.cps.size ≤ 1000000) (hD : H D = none) (hf : ∀ H6, Same H H6 → H6 D = some (.lst (bv (codes x))) → fin H6) :
    ∃ W : Nat → Nat → List V → L2.St → Hp → Prop, (∃ m, W 0 m [] [o] (upd H D (.lst []))) ∧ CompW (Its x) (gName 0) tAlways (tCB (fun xs H Q => ∃ x, xs = [.str x] ∧ x.length = 1 ∧ Q (.int (x.cps.getD 0 0 : Nat)) H) (tCons (tVar 0) tNil)) D W fin := by
  refine comp_str (x := x) (fun i ys σ H5 => (∃ o', σ = [o']) ∧ ys = bv ((codes x).take i) ∧ Same H H5 ∧ H5 D = some (.lst ys)) ⟨⟨_, rfl⟩, rfl, (Same.refl H).put hD, upd_same⟩ ?_ ?_ ?_
  · rintro i ys σ H5 hi ⟨_, _, s5, h5⟩
    exact h5
  · rintro i c ys σ H5 hx ⟨⟨o', rfl⟩, rfl, s5, h5⟩
    have et : (codes x)[i]? = some (c : Int) := by
      unfold codes
      rw [List.getElem?_map]
      have : x.cps.toList[i]? = some c := by simpa using hx
      rw [this]; rfl
    refine goAlways ⟨_, rfl, ⟨#[c]⟩, rfl, rfl, h5, ?_, ⟨_, rfl⟩, ?_, s5.put hD, upd_same⟩
    · rw [bv_len, List.length_take, codes_len]; exact Nat.lt_of_le_of_lt (Nat.le_trans (Nat.min_le_right _ _) hl) (by decide)
    · rw [take_more et, bv_app]; rfl
  · rintro ys σ H5 ⟨_, rfl, s5, h5⟩
    refine hf H5 s5 ?_
    rw [h5, List.take_of_length_le]
    rw [codes_len]; exact Nat.le_refl _
end
end K10
namespace K10
open PySem PySem.Spec PyProof.Rows L2 K01 K03
def LbS (s : Nat) (l : Lb) : Prop := (s = 0 ∧ l = .no) ∨ (s = 1 ∧ ∃ x, l = .key x ∧ nameOk x) ∨ (s = 2 ∧ ∃ n, l = .num n ∧ 1 ≤ n ∧ n ≤ 999)
theorem GdL.at {s : Nat} {ls : List Lb} (hs : s ≤ 2) (g : GdL s ls) : ∀ l ∈ ls, LbS s l := by
  intro l m
  match s, hs, g with
  | 0, _, g => exact .inl ⟨rfl, g l m⟩
  | 1, _, ⟨ks, e, h, _⟩ =>
    rw [e] at m
    obtain ⟨x, mx, rfl⟩ := List.mem_map.mp m
    exact .inr (.inl ⟨rfl, x, rfl, h x mx⟩)
  | 2, _, ⟨ks, e, h, _⟩ =>
    rw [e] at m
    obtain ⟨x, mx, rfl⟩ := List.mem_map.mp m
    exact .inr (.inr ⟨rfl, x, rfl, h x mx⟩)
theorem prtDs_get : ∀ {ls : List Lb} {ds : List D} {j : Nat} {l : Lb} {d : D}, ls[j]? = some l → ds[j]? = some d → (prtDs ls ds)[j]? = some (prtD l d)
  | [], _, j, l, d, h, _ => by simp at h
  | _ :: _, [], j, l, d, _, h => by simp at h
  | l0 :: ls, d0 :: ds, 0, l, d, h1, h2 => by
    simp at h1 h2
    subst h1 h2
    rfl
  | l0 :: ls, d0 :: ds, j + 1, l, d, h1, h2 => by
    simp only [prtDs, List.getElem?_cons_succ]
    exact prtDs_get (by simpa using h1) (by simpa using h2)
theorem srt_ne (s : Nat) : (srt s == "whole") = false ∧ (srt s == "text") = false ∧ (srt s == "arm") = false := by
  match s with
  | 0 => decide +kernel
  | 1 => decide +kernel
  | _ + 2 => exact (by decide +kernel : (("rec" : Str) == "whole") = false ∧ (("rec" : Str) == "text") = false ∧ (("rec" : Str) == "arm") = false)
theorem vs_ne {x z : Str} (h : (x == z) = false) : decide (V.str x = V.str z) = false := by
  rw [decide_eq_false_iff_not]
  intro e
  injection e with e
  rw [e, beq_self_eq_true] at h
  cases h
theorem areD_got {K : PySem.W.Frag} {H : Hp} {ds : List D} {vs : List V} {i : Nat} {v : V} (h : AreD K H ds vs) (e : vs[i]? = some v) : ∃ d, ds[i]? = some d ∧ IsD K H d v := by
  have hi := (List.getElem?_eq_some_iff.mp e).1
  have hi' : i < ds.length := by rw [h.length]; exact hi
  obtain ⟨v', e1, q⟩ := h.get (List.getElem?_eq_getElem hi')
  rw [e] at e1; cases e1
  exact ⟨_, List.getElem?_eq_getElem hi', q⟩
abbrev s_law_key : Stmt := top 41
abbrev N_law_key : List Str := ["_law_key_here"]
theorem sc_law_key : FnScope N_law_key ["_law_key_here"] (defScope s_law_key) := ⟨rfl, rfl, rfl, by decide +kernel, rfl, by decide +kernel, by decide +kernel⟩
abbrev s_law_packed : Stmt := top 42
abbrev N_law_packed : List Str := ["_law_item_here", "_law_rest", "_law_part"]
theorem sc_law_packed : FnScope N_law_packed ["_law_item_here"] (defScope s_law_packed) := ⟨rfl, rfl, rfl, by decide +kernel, rfl, by decide +kernel, by decide +kernel⟩
def lbV : Lb → V
  | .no => .non
  | .key x => .str x
  | .num n => .int n
def spKey (K : PySem.W.Frag) : Sp := fun vs H Q _ => ∃ l, vs = [lbV l] ∧ ((∃ x, l = .key x ∧ x.length ≤ 1000) ∨ ∃ n, l = .num n ∧ 0 ≤ n ∧ n ≤ 1000000) ∧ ∀ (r : Addr) (H' : Hp), Same H H' → SqT K H' r (bv (lbB l)) → Q (.ref r) H'
def spLPack (K : PySem.W.Frag) : Nat → Sp
  | 0 => fun _ _ _ _ => False
  | n + 1 => fun vs H Q _ => ∃ v it, vs = [v] ∧ IsD K H (toD it) v ∧ GdI it ∧ dpI it ≤ n + 1 ∧ (byI it).length ≤ 1000000 ∧ ∀ (r : Addr) (H' : Hp), Same H H' → SqT K H' r (bv (byI it)) → Q (.ref r) H'
theorem byIs_take : ∀ {ls : List Lb} {es : List IT} {j : Nat} {l : Lb} {e : IT}, ls[j]? = some l → es[j]? = some e → byIs (ls.take (j + 1)) (es.take (j + 1)) = byIs (ls.take j) (es.take j) ++ lbB l ++ byI e
  | [], _, j, l, e, h, _ => by simp at h
  | _ :: _, [], j, l, e, _, h => by simp at h
  | l0 :: ls, e0 :: es, 0, l, e, h1, h2 => by
    simp at h1 h2
    subst h1 h2
    simp [byIs]
  | l0 :: ls, e0 :: es, j + 1, l, e, h1, h2 => by
    have ih := byIs_take (ls := ls) (es := es) (j := j) (by simpa using h1) (by simpa using h2)
    rw [List.take_succ_cons, List.take_succ_cons, List.take_succ_cons, List.take_succ_cons]
    simp only [byIs]
    rw [ih]
    simp only [List.append_assoc]
theorem byIs_take_le : ∀ (ls : List Lb) (es : List IT) (j : Nat), (byIs (ls.take j) (es.take j)).length ≤ (byIs ls es).length
  | [], _, j => by simp [byIs]
  | _ :: _, [], j => by cases j <;> simp [byIs]
  | l :: ls, e :: es, 0 => by simp [byIs]
  | l :: ls, e :: es, j + 1 => by
    have := byIs_take_le ls es j
    rw [List.take_succ_cons, List.take_succ_cons]
    simp only [byIs, List.length_append]; omega
theorem sIndex3 {s : Nat} (hs : s ≤ 2) : (["row", "map", "rec"] : List Str)[s]? = some (srt s) ∧ ∀ m, m < s → (["row", "map", "rec"] : List Str)[m]? ≠ some (srt s) := by
  match s, hs with
  | 0, _ => exact ⟨by decide +kernel, by decide +kernel⟩
  | 1, _ => exact ⟨by decide +kernel, by decide +kernel⟩
  | 2, _ => exact ⟨by decide +kernel, by decide +kernel⟩
section
variable {P : Program} {w : World} {K : PySem.W.Frag} {mg : Str → Option Value} {base : Heap} {f : Addr} {fd : FuncData} {aS : Addr}
theorem ok_law_key (F : Fun K "_law_key" "_law_key" s_law_key f fd) (m : Bn mg) (g_law_long : Fn P w K mg base 1 "_law_long" ["_law_n"] spLong) : FnOk P w K mg base CX0 2 f fd ["_law_key_here"] (spKey K) := by
  refine F.ok sc_law_key (fun vs H Q E h => ?_) (fun cdv A outer s H vs Q E hr h => ?_)
  · obtain ⟨l, rfl, _⟩ := h
    rfl
  obtain ⟨l, rfl, hl, q⟩ := h
  refine ⟨_, (@pss_cons _ _ _ _ _ (@ps_if _ _ _ _ _ _ _ _ (@pt_val _ _ _ (@pe_callB _ _ _ _ _ _ _ _ _ call_isi rfl m.isinstance b_isinstance (@pa_cons _ _ _ _ _ (pv 0) (@pa_cons _ _ _ _ _ (@pe_bltnT _ _ _ _ rfl m.str b_str (by decide) (by decide)) pa_nil rfl) rfl) (by decide) (by decide) rfl rfl) (by intro _; rfl)) (@pss_one _ _ _ (@ps_ret _ _ _ _ (@pe_op _ _ _ _ _ _ _ _ op_catG (@pe_callF _ _ _ _ _ _ _ _ _ _ g_law_long (hr.mono (by omega)) rfl (@pa_cons _ _ _ _ _ (@pe_callB _ _ _ _ _ _ _ _ _ call_len_str rfl m.len b_len (@pa_cons _ _ _ _ _ (pv 0) pa_nil rfl) (by decide) (by decide) rfl rfl) pa_nil rfl) (by decide) rfl rfl) (@pe_callTy _ _ _ _ _ _ _ _ _ call_tuple_of rfl m.tuple b_tuple (@pa_cons _ _ _ _ _ (@pe_compI _ N_law_key (defScope s_law_key) ["_law_sign"] [none] _ _ _ _ _ _ _ _ _ _ rfl (@pi_str _ _ _ _ (pv 0)) ⟨rfl, rfl, by decide +kernel, by decide +kernel⟩ (fun _ _ _ =>  (@pg_nameI _ 0 _ _ (show List.Nodup (["_law_sign"] : List Str) from by decide +kernel) rfl (Or.inl rfl) (by first | exact .inl rfl | exact .inr rfl))) (fun _ _ _ =>  pts_nil) (fun _ _ _ =>  (@pe_callB _ _ _ _ _ _ _ _ _ call_ord rfl m.ord b_ord (@pa_cons _ _ _ _ _ (pv 0) pa_nil rfl) (by decide) (by decide) rfl rfl)) (by first | rfl | decide | (intro _; rfl) | exact .inl rfl | exact .inr rfl | assumption)) pa_nil rfl) (by first | rfl | decide | (intro _; rfl) | exact .inl rfl | exact .inr rfl | assumption) (by first | rfl | decide | (intro _; rfl) | exact .inl rfl | exact .inr rfl | assumption) (by first | rfl | decide | (intro _; rfl) | exact .inl rfl | exact .inr rfl | assumption) (by first | rfl | decide | (intro _; rfl) | exact .inl rfl | exact .inr rfl | assumption))))) pss_nil) (@pss_one _ _ _ (@ps_ret _ _ _ _ (@pe_callF _ _ _ _ _ _ _ _ _ _ g_law_long (hr.mono (by omega)) rfl (@pa_cons _ _ _ _ _ (pv 0) pa_nil rfl) (by decide) rfl rfl)))), ?_⟩
  rcases hl with ⟨x, rfl, hx⟩ | ⟨n, rfl, h0, h1⟩
  · have ll := Lg_len x.length
    have lc := codes_len x
    refine ⟨_, rfl, _, "str", _, true, rfl, TyOf.str x, rfl, _, rfl, iteY rfl ?_⟩
    refine ⟨_, rfl, x, rfl, Nat.le_trans hx (by decide), _, rfl, by omega, lt20 (by omega), fun r H1 s1 h1 => ?_⟩
    refine ⟨_, rfl, x, rfl, fun D fp sx hD => ord_comp (Nat.le_trans hx (by decide)) hD fun H2 s2 h2 => ?_⟩
    refine ⟨D, _, rfl, .inl ⟨SqL.of h2, fun l hl => ?_⟩⟩
    have s3 := Same.lay (o := .tup (bv (codes x))) hl
    refine ⟨r, l, _, _, rfl, rfl, SqT.of ((s2.trans s3) _ _ h1), SqT.of upd_same, ?_, fun p H' s' h' => q p H' ((s1.trans (s2.trans s3)).trans s') ?_⟩
    · rw [List.length_map, bv_len]; exact Nat.le_trans (show _ ≤ 3000 by have : (Lf 19 x.length).length ≤ 20 := ll; omega) (by decide)
    · have e : bv (lbB (.key x)) = (Lf 19 (x.length : Int)).map V.int ++ bv (codes x) := bv_app _ _
      rw [e]
      exact h'
  · refine ⟨_, rfl, _, "str", _, false, rfl, TyOf.int n, rfl, _, rfl, iteN rfl ?_⟩
    exact ⟨_, rfl, n, rfl, h0, lt20 (by omega), fun r H1 s1 h1 => q r H1 s1 (SqT.of h1)⟩
theorem ok_law_packed (F : Fun K "_law_packed" "_law_packed" s_law_packed f fd) (m : Bn mg) (bd : Binds K fd ["_law_item_here"] []) (mf : mg "_law_packed" = some (.ref f)) (g_law_long : Fn P w K mg base 1 "_law_long" ["_law_n"] spLong)
    (g_law_key : Fn P w K mg base 2 "_law_key" ["_law_key_here"] (spKey K)) : ∀ n, FnOk P w K mg base CX0 (n + 3) f fd ["_law_item_here"] (spLPack K n)
  | 0 => ⟨fun vs H Q E h => h.elim, fun A outer s H args us vs Q E _ _ _ _ h => h.elim⟩
  | n + 1 => by
    have g_law_packed : Fn P w K mg base (n + 3) "_law_packed" ["_law_item_here"] (spLPack K n) := ⟨f, fd, ok_law_packed F m bd mf g_law_long g_law_key n, bd, F.kp, mf⟩
    refine F.ok sc_law_packed (fun vs H Q E h => ?_) (fun cdv A outer s H vs Q E hr h => ?_)
    · obtain ⟨v, it, rfl, _⟩ := h
      rfl
    obtain ⟨v, it, rfl, hd, gd, dp, lb, q⟩ := h
    refine ⟨_, (@pss_cons _ _ _ _ _ (@ps_if _ _ _ _ _ _ _ _ (@pt_cmpR _ _ _ _ _ _ _ _ op_eq (@pe_ix _ _ _ _ _ _ _ ix_tup (pv 0) pe_int (fun _ _ =>  rfl)) pe_str (nomark _)) (@pss_one _ _ _ (@ps_ret _ _ _ _ (@pe_op _ _ _ _ _ _ _ _ op_catG (@pe_tup _ _ _ _ _ (@pa_cons _ _ _ _ _ pe_int pa_nil rfl)) (@pe_callF _ _ _ _ _ _ _ _ _ _ g_law_long (hr.mono (by omega)) rfl (@pa_cons _ _ _ _ _ (@pe_ix _ _ _ _ _ _ _ ix_list (@pe_lst _ _ _ _ (@pa_cons _ _ _ _ _ (@pe_op _ _ _ _ _ _ _ _ op_mul pe_int (@pe_ix _ _ _ _ _ _ _ ix_tup (pv 0) pe_int (fun _ _ =>  rfl))) (@pa_cons _ _ _ _ _ (@pe_op _ _ _ _ _ _ _ _ op_sub (@pe_op _ _ _ _ _ _ _ _ op_mul (@pe_un _ _ _ _ _ _ un_neg pe_int) (@pe_ix _ _ _ _ _ _ _ ix_tup (pv 0) pe_int (fun _ _ =>  rfl))) pe_int) pa_nil rfl) rfl)) (@pe_callTy _ _ _ _ _ _ _ _ _ call_int1 rfl m.int b_int (@pa_cons _ _ _ _ _ (@pe_cmpR _ _ _ _ _ _ _ _ op_lt (@pe_ix _ _ _ _ _ _ _ ix_tup (pv 0) pe_int (fun _ _ =>  rfl)) pe_int (nomark _)) pa_nil rfl) (by first | rfl | decide | (intro _; rfl) | exact .inl rfl | exact .inr rfl | assumption) (by first | rfl | decide | (intro _; rfl) | exact .inl rfl | exact .inr rfl | assumption) (by first | rfl | decide | (intro _; rfl) | exact .inl rfl | exact .inr rfl | assumption) (by first | rfl | decide | (intro _; rfl) | exact .inl rfl | exact .inr rfl | assumption)) (fun _ _ =>  rfl)) pa_nil rfl) (by decide) rfl rfl)))) pss_nil) (@pss_cons _ _ _ _ _ (@ps_if _ _ _ _ _ _ _ _ (@pt_cmpR _ _ _ _ _ _ _ _ op_eq (@pe_ix _ _ _ _ _ _ _ ix_tup (pv 0) pe_int (fun _ _ =>  rfl)) pe_str (nomark _)) (@pss_one _ _ _ (@ps_ret _ _ _ _ (@pe_op _ _ _ _ _ _ _ _ op_catG (@pe_tup _ _ _ _ _ (@pa_cons _ _ _ _ _ pe_int pa_nil rfl)) (@pe_callF _ _ _ _ _ _ _ _ _ _ g_law_key (hr.mono (by omega)) rfl (@pa_cons _ _ _ _ _ (@pe_ix _ _ _ _ _ _ _ ix_tup (pv 0) pe_int (fun _ _ =>  rfl)) pa_nil rfl) (by decide) rfl rfl)))) pss_nil) (@pss_cons _ _ _ _ _ (@ps_if _ _ _ _ _ _ _ _ (@pt_cmpR _ _ _ _ _ _ _ _ op_eq (@pe_ix _ _ _ _ _ _ _ ix_tup (pv 0) pe_int (fun _ _ =>  rfl)) pe_str (nomark _)) (@pss_one _ _ _ (@ps_ret _ _ _ _ (@pe_op _ _ _ _ _ _ _ _ op_catG (@pe_op _ _ _ _ _ _ _ _ op_catG (@pe_tup _ _ _ _ _ (@pa_cons _ _ _ _ _ pe_int pa_nil rfl)) (@pe_callF _ _ _ _ _ _ _ _ _ _ g_law_long (hr.mono (by omega)) rfl (@pa_cons _ _ _ _ _ (@pe_ix _ _ _ _ _ _ _ ix_tup (pv 0) pe_int (fun _ _ =>  rfl)) pa_nil rfl) (by decide) rfl rfl)) (@pe_callF _ _ _ _ _ _ _ _ _ _ g_law_packed (hr.mono (by omega)) rfl (@pa_cons _ _ _ _ _ (@pe_ix _ _ _ _ _ _ _ ix_tup (pv 0) pe_int (fun _ _ =>  rfl)) pa_nil rfl) (by decide) rfl rfl)))) pss_nil) (@pss_cons _ _ _ _ _ (@ps_setI _ 1 _ _ _ _ _ sc_law_packed.nd rfl (by first | exact Or.inl rfl | exact Or.inr rfl) (@pe_tup _ _ _ _ _ pa_nil) rfl (by first | exact .inl rfl | exact .inr rfl)) (@pss_cons _ _ _ _ _ (@ps_for _ _ _ _ _ _ _ _ PassesOwn.never rfl (@pi_tup _ _ _ _ (@pe_ix _ _ _ _ _ _ _ ix_tup (pv 0) pe_int (fun _ _ =>  rfl))) (@pg_nameI _ 2 _ _ sc_law_packed.nd rfl (Or.inl rfl) (by first | exact .inl rfl | exact .inr rfl)) (@pss_one _ _ _ (@ps_if _ _ _ _ _ _ _ _ (@pt_cmpR _ _ _ _ _ _ _ _ op_eq (@pe_ix _ _ _ _ _ _ _ ix_tup (pv 0) pe_int (fun _ _ =>  rfl)) pe_str (nomark _)) (@pss_one _ _ _ (@ps_setI _ 1 _ _ _ _ _ sc_law_packed.nd rfl (by first | exact Or.inl rfl | exact Or.inr rfl) (@pe_op _ _ _ _ _ _ _ _ op_catG (pv 1) (@pe_callF _ _ _ _ _ _ _ _ _ _ g_law_packed (hr.mono (by omega)) rfl (@pa_cons _ _ _ _ _ (pv 2) pa_nil rfl) (by decide) rfl rfl)) rfl (by first | exact .inl rfl | exact .inr rfl))) (@pss_one _ _ _ (@ps_setI _ 1 _ _ _ _ _ sc_law_packed.nd rfl (by first | exact Or.inl rfl | exact Or.inr rfl) (@pe_op _ _ _ _ _ _ _ _ op_catG (@pe_op _ _ _ _ _ _ _ _ op_catG (pv 1) (@pe_callF _ _ _ _ _ _ _ _ _ _ g_law_key (hr.mono (by omega)) rfl (@pa_cons _ _ _ _ _ (@pe_ix _ _ _ _ _ _ _ ix_tup (pv 2) pe_int (fun _ _ =>  rfl)) pa_nil rfl) (by decide) rfl rfl)) (@pe_callF _ _ _ _ _ _ _ _ _ _ g_law_packed (hr.mono (by omega)) rfl (@pa_cons _ _ _ _ _ (@pe_ix _ _ _ _ _ _ _ ix_tup (pv 2) pe_int (fun _ _ =>  rfl)) pa_nil rfl) (by decide) rfl rfl)) rfl (by first | exact .inl rfl | exact .inr rfl))))) (by first | rfl | decide | (intro _; rfl) | exact .inl rfl | exact .inr rfl | assumption)) (@pss_one _ _ _ (@ps_ret _ _ _ _ (@pe_op _ _ _ _ _ _ _ _ op_catG (@pe_op _ _ _ _ _ _ _ _ op_catG (@pe_tup _ _ _ _ _ (@pa_cons _ _ _ _ _ (@pe_op _ _ _ _ _ _ _ _ op_add (@pe_bm _ _ _ _ _ _ _ _ _ _ _ _ PySem.F.plainAttrs_list PySem.F.slot_list_index PySem.F.type_list_index mt_indexL (@pe_lst _ _ _ _ (@pa_cons _ _ _ _ _ pe_str (@pa_cons _ _ _ _ _ pe_str (@pa_cons _ _ _ _ _ pe_str pa_nil rfl) rfl) rfl)) (@pa_cons _ _ _ _ _ (@pe_ix _ _ _ _ _ _ _ ix_tup (pv 0) pe_int (fun _ _ =>  rfl)) pa_nil rfl) (by first | rfl | decide | (intro _; rfl) | exact .inl rfl | exact .inr rfl | assumption) (by first | rfl | decide | (intro _; rfl) | exact .inl rfl | exact .inr rfl | assumption) (by first | rfl | decide | (intro _; rfl) | exact .inl rfl | exact .inr rfl | assumption) (by first | rfl | decide | (intro _; rfl) | exact .inl rfl | exact .inr rfl | assumption) (by first | rfl | decide | (intro _; rfl) | exact .inl rfl | exact .inr rfl | assumption)) pe_int) pa_nil rfl)) (@pe_callF _ _ _ _ _ _ _ _ _ _ g_law_long (hr.mono (by omega)) rfl (@pa_cons _ _ _ _ _ (@pe_callB _ _ _ _ _ _ _ _ _ call_len_seq rfl m.len b_len (@pa_cons _ _ _ _ _ (pv 1) pa_nil rfl) (by decide) (by decide) rfl rfl) pa_nil rfl) (by decide) rfl rfl)) (pv 1))))))))), ?_⟩
    have small : ∀ m : Nat, m ≤ 3000000 → m ≤ sizeLine := fun m h => Nat.le_trans h (by decide)
    cases it with
    | whole k =>
      obtain ⟨p, x, y, rfl, hp, rfl, rfl⟩ := isD2 hd
      have ll := Lg_len (fold k)
      refine ⟨_, rfl, p, _, _, _, rfl, rfl, hp, rfl, rfl, _, rfl, iteY (by decide +kernel) ?_⟩
      refine ⟨(by show 1 ≤ sizeLine; decide), fun p0 hp0 => ?_⟩
      have s0 : Same H (upd H p0 (.tup [.int 0])) := Same.lay hp0
      have hp1 := s0.up _ _ hp
      refine ⟨_, rfl, p, _, _, _, rfl, rfl, hp1, rfl, _, _, rfl, rfl, .inl ⟨by decide, by decide⟩, ?_⟩
      refine ⟨_, rfl, _, rfl, p, _, _, _, rfl, rfl, hp1, rfl, _, _, rfl, rfl, .inl ⟨by decide, by decide⟩, _, _, rfl, rfl, ?_⟩
      refine ⟨(by show 2 ≤ sizeLine; decide), fun l hl => ?_⟩
      have s1 := s0.trans (Same.lay (o := .lst [.int (2 * k), .int (-2 * k - 1)]) hl)
      have hp2 := s1.up _ _ hp
      refine ⟨_, rfl, p, _, _, _, rfl, rfl, hp2, rfl, _, _, rfl, rfl, .inr ⟨_, rfl, ?_⟩⟩
      refine ⟨l, _, _, .int (fold k), rfl, rfl, SqL.of upd_same, ?_, ?_⟩
      · by_cases hk : k < 0
        · have e : fold k = -2 * k - 1 := by unfold fold; rw [if_neg (by omega)]
          rw [decide_eq_true hk, e]
          rfl
        · have e : fold k = 2 * k := by unfold fold; rw [if_pos (by omega)]
          rw [decide_eq_false hk, e]
          rfl
      refine ⟨_, rfl, fold_nn k, lt20 (Int.le_trans (fold_le gd.1 gd.2) (by decide)), fun r H2 s2 h2 => ?_⟩
      refine ⟨p0, r, _, _, rfl, rfl, SqT.of (s2 _ _ ((Same.lay hl) _ _ upd_same)), SqT.of h2, ?_, fun p' H' s' h' => q p' H' ((s1.trans s2).trans s') h'⟩
      rw [List.length_map, List.length_singleton]; exact small _ (by have : (Lf 19 (fold k)).length ≤ 20 := ll; omega)
    | text x =>
      obtain ⟨p, vx, y, rfl, hp, rfl, rfl⟩ := isD2 hd
      have ll := sgB_len x
      have lx := gd.1
      refine ⟨_, rfl, p, _, _, _, rfl, rfl, hp, rfl, rfl, _, rfl, iteN (by decide +kernel) ?_⟩
      refine ⟨_, rfl, p, _, _, _, rfl, rfl, hp, rfl, rfl, _, rfl, iteY (by decide +kernel) ?_⟩
      refine ⟨(by show 1 ≤ sizeLine; decide), fun p0 hp0 => ?_⟩
      have s0 : Same H (upd H p0 (.tup [.int 1])) := Same.lay hp0
      refine ⟨_, rfl, p, _, _, _, rfl, rfl, s0.up _ _ hp, rfl, .key x, rfl, .inl ⟨x, rfl, by omega⟩, fun r H2 s2 h2 => ?_⟩
      refine ⟨p0, r, _, _, rfl, rfl, SqT.of (s2 _ _ upd_same), h2, ?_, fun p' H' s' h' => q p' H' ((s0.trans s2).trans s') h'⟩
      rw [bv_len, List.length_singleton]; exact small _ (by show 1 + (sgB x).length ≤ _; omega)
    | arm k e =>
      obtain ⟨p, vx, y, z, rfl, hp, rfl, rfl, hz⟩ := isD3 hd
      have ll := Lg_len k
      have lb' : (byI (.arm k e)).length = (Lg k).length + (byI e).length + 1 := by simp only [byI, List.length_cons, List.length_append]
      have de : dpI e + 1 ≤ n + 1 := dp
      have e1 : 1 ≤ dpI e := by cases e <;> simp only [dpI] <;> omega
      obtain ⟨n', rfl⟩ : ∃ n', n = n' + 1 := ⟨n - 1, by omega⟩
      refine ⟨_, rfl, p, _, _, _, rfl, rfl, hp, rfl, rfl, _, rfl, iteN (by decide +kernel) ?_⟩
      refine ⟨_, rfl, p, _, _, _, rfl, rfl, hp, rfl, rfl, _, rfl, iteN (by decide +kernel) ?_⟩
      refine ⟨_, rfl, p, _, _, _, rfl, rfl, hp, rfl, rfl, _, rfl, iteY (by decide +kernel) ?_⟩
      refine ⟨(by show 1 ≤ sizeLine; decide), fun p0 hp0 => ?_⟩
      have s0 : Same H (upd H p0 (.tup [.int 5])) := Same.lay hp0
      refine ⟨_, rfl, p, _, _, _, rfl, rfl, s0.up _ _ hp, rfl, k, rfl, by have := gd.1; omega, lt20 (by have := gd.2.1; omega), fun r H2 s2 h2 => ?_⟩
      refine ⟨p0, r, _, _, rfl, rfl, SqT.of (s2 _ _ upd_same), SqT.of h2, ?_, fun p1 H3 s3 h3 => ?_⟩
      · rw [List.length_map, List.length_singleton]; exact small _ (by have : (Lf 19 k).length ≤ 20 := ll; omega)
      have s03 := (s0.trans s2).trans s3
      refine ⟨_, rfl, p, _, _, _, rfl, rfl, s03.up _ _ hp, rfl, z, e, rfl, IsD.up s03.up _ _ (toD_noL e) hz, gd.2.2, by omega, by omega, fun r4 H4 s4 h4 => ?_⟩
      refine ⟨p1, r4, _, _, rfl, rfl, s4.up _ _ h3, h4, ?_, fun p' H' s' h' => q p' H' ((s03.trans s4).trans s') ?_⟩
      · rw [List.length_append, List.length_map, List.length_singleton, bv_len]; exact small _ (by have : (Lf 19 k).length ≤ 20 := ll; omega)
      · have e9 : bv (byI (.arm k e)) = [V.int 5] ++ (Lf 19 k).map V.int ++ bv (byI e) := by
          simp only [byI, bv, List.map_cons, List.map_append, List.append_assoc]; rfl
        rw [e9]; exact h'
    | lst st ls es =>
      obtain ⟨hs, hl, gl, ge⟩ := gd
      obtain ⟨p, vx, y, rfl, hp, rfl, pp, ws, rfl, hpp, ar⟩ := isD2 hd
      obtain ⟨n1, n2, n3⟩ := srt_ne st
      have hlen : es.length = ws.length := by rw [← ar.length, prtDs_len (by rw [toDs_map, List.length_map]; exact hl), toDs_map, List.length_map]
      have ll := Lg_len (byIs ls es).length
      have lb' : (byI (.lst st ls es)).length = (Lg (byIs ls es).length).length + (byIs ls es).length + 1 := by simp only [byI, List.length_cons, List.length_append]
      refine ⟨_, rfl, p, _, _, _, rfl, rfl, hp, rfl, rfl, _, rfl, iteN (vs_ne n1) ?_⟩
      refine ⟨_, rfl, p, _, _, _, rfl, rfl, hp, rfl, rfl, _, rfl, iteN (vs_ne n2) ?_⟩
      refine ⟨_, rfl, p, _, _, _, rfl, rfl, hp, rfl, rfl, _, rfl, iteN (vs_ne n3) ?_⟩
      refine ⟨(by show 0 ≤ sizeLine; decide), fun p0 hp0 => ?_⟩
      have s0 : Same H (upd H p0 (.tup [])) := Same.lay hp0
      refine ⟨_, rfl, p, _, _, _, rfl, rfl, s0.up _ _ hp, rfl, pp, rfl, ⟨_, s0.up _ _ hpp⟩, for_tup (xs := ws) (fun i σ H2 => (∃ o a, σ = [some (.ref p), some (.ref a), o] ∧ SqT K H2 a (bv (byIs (ls.take i) (es.take i)))) ∧ Same H H2) ⟨⟨_, _, rfl, SqT.of upd_same⟩, s0⟩ ?_ ?_ ?_⟩
      · rintro i σ H2 hi ⟨_, k2⟩
        exact k2.up _ _ hpp
      · rintro i x σ H2 hx ⟨⟨o, a, rfl, ha⟩, k2⟩
        have hi : i < ws.length := (List.getElem?_eq_some_iff.mp hx).1
        have hje : i < es.length := by omega
        have hjl : i < ls.length := by omega
        obtain ⟨d, ed, id'⟩ := areD_got ar hx
        have el : ls[i]? = some ls[i] := List.getElem?_eq_getElem hjl
        have ee : es[i]? = some es[i] := List.getElem?_eq_getElem hje
        have ed2 := prtDs_get (ds := toDs es) el (by rw [toDs_map, List.getElem?_map, ee]; rfl)
        rw [ed] at ed2
        cases ed2
        have ml : ls[i] ∈ ls := List.getElem_mem hjl
        have me : es[i] ∈ es := List.getElem_mem hje
        have tk : byIs (ls.take (i + 1)) (es.take (i + 1)) = byIs (ls.take i) (es.take i) ++ lbB ls[i] ++ byI es[i] := byIs_take el ee
        have tkl := byIs_take_le ls es (i + 1)
        generalize ls[i] = l at el ml id' ed tk
        generalize es[i] = e at ee me id' ed tk
        have hls := gl.at hs l ml
        have gde := GdIs_all.mp ge e me
        have dd : dpI e + 1 ≤ n + 1 := by have := dpI_mem me; simp only [dpI] at dp; omega
        have e1 : 1 ≤ dpI e := by cases e <;> simp only [dpI] <;> omega
        obtain ⟨n', rfl⟩ : ∃ n', n = n' + 1 := ⟨n - 1, by omega⟩
        rw [tk] at tkl
        simp only [List.length_append] at tkl
        have idH := IsD.up k2.up _ _ (noLs_mem (prts_noL ls es) (List.mem_of_getElem? ed)) id'
        refine ⟨_, rfl, p, _, _, _, rfl, rfl, k2.up _ _ hp, rfl, rfl, _, rfl, ?_⟩
        rcases hls with ⟨rfl, rfl⟩ | hls
        · refine iteY (by decide +kernel) ⟨_, rfl, _, rfl, x, e, rfl, idH, gde, by omega, by omega, fun r H3 s3 h3 => ?_⟩
          refine ⟨a, r, _, _, rfl, rfl, s3.up _ _ ha, h3, ?_, fun p1 H4 s4 h4 => ⟨⟨_, p1, rfl, ?_⟩, (k2.trans s3).trans s4⟩⟩
          · rw [bv_len, bv_len]; exact small _ (by omega)
          · rw [tk, bv_app, bv_app]
            show SqT K H4 p1 (bv (byIs (ls.take i) (es.take i)) ++ [] ++ bv (byI e))
            rw [List.append_nil]; exact h4
        · have two : ∃ x' e', prtD l (toD e) = .tup [x', toD e] ∧ (∀ v H, IsD K H x' v → v = lbV l) ∧ ((∃ x, l = .key x ∧ x.length ≤ 1000) ∨ ∃ n, l = .num n ∧ 0 ≤ n ∧ n ≤ 1000000) ∧ decide (V.str (srt st) = V.str "row") = e' ∧ e' = false := by
            rcases hls with ⟨rfl, x', rfl, nx⟩ | ⟨rfl, n'', rfl, n0, n1⟩
            · exact ⟨.str x', _, rfl, fun v H h => h, .inl ⟨x', rfl, by have := nx.2.1; omega⟩, rfl, by decide +kernel⟩
            · exact ⟨.int n'', _, rfl, fun v H h => h, .inr ⟨n'', rfl, by omega, by omega⟩, rfl, by decide +kernel⟩
          obtain ⟨x', e', ep, xv, lk, er, rfl⟩ := two
          rw [ep] at idH
          obtain ⟨q1, vx', vy', rfl, hq1, ix, iy⟩ := isD2 idH
          cases xv _ _ ix
          refine iteN er ⟨_, rfl, _, rfl, q1, _, _, _, rfl, rfl, hq1, rfl, l, rfl, lk, fun r H3 s3 h3 => ?_⟩
          refine ⟨a, r, _, _, rfl, rfl, s3.up _ _ ha, h3, ?_, fun p1 H4 s4 h4 => ?_⟩
          · rw [bv_len, bv_len]; exact small _ (by omega)
          have s34 := s3.trans s4
          refine ⟨_, rfl, q1, _, _, _, rfl, rfl, s34.up _ _ hq1, rfl, vy', e, rfl, IsD.up s34.up _ _ (toD_noL e) iy, gde, by omega, by omega, fun r5 H5 s5 h5 => ?_⟩
          refine ⟨p1, r5, _, _, rfl, rfl, s5.up _ _ h4, h5, ?_, fun p2 H6 s6 h6 => ⟨⟨_, p2, rfl, ?_⟩, ((k2.trans s34).trans s5).trans s6⟩⟩
          · rw [List.length_append, bv_len, bv_len, bv_len]; exact small _ (by omega)
          · rw [tk, bv_app, bv_app]; exact h6
      · rintro σ H2 ⟨⟨o, a, rfl, ha⟩, k2⟩
        rw [← hlen, List.take_length, ← hl, List.take_length] at ha
        refine ⟨(by show 3 ≤ sizeLine; decide), fun l3 hl3 => ?_⟩
        have s3 := Same.lay (o := .lst [.str "row", .str "map", .str "rec"]) hl3
        have k3 := k2.trans s3
        refine ⟨.inl ⟨rfl, _, SqL.of upd_same⟩, _, rfl, p, _, _, _, rfl, rfl, k3.up _ _ hp, rfl, ?_⟩
        refine ⟨l3, ["row", "map", "rec"], srt st, st, rfl, rfl, SqL.of upd_same, (sIndex3 hs).1, (sIndex3 hs).2, _, _, rfl, rfl, ?_⟩
        refine ⟨(by show 1 ≤ sizeLine; decide), fun p4 hp4 => ?_⟩
        have s4 := Same.lay (o := .tup [.int ((st : Int) + 2)]) hp4
        have ha4 := (s3.trans s4).up (K := K) _ _ ha
        refine ⟨_, rfl, a, _, rfl, .inr ha4, _, rfl, by omega, lt20 (by rw [bv_len]; omega), fun r5 H5 s5 h5 => ?_⟩
        rw [bv_len] at h5
        refine ⟨p4, r5, _, _, rfl, rfl, SqT.of (s5 _ _ upd_same), SqT.of h5, ?_, fun p6 H6 s6 h6 => ?_⟩
        · rw [List.length_map, List.length_singleton]; exact small _ (by have : (Lf 19 ((byIs ls es).length : Int)).length ≤ 20 := ll; omega)
        refine ⟨_, rfl, p6, a, _, _, rfl, rfl, h6, (s5.trans s6).up _ _ ha4, ?_, fun p' H' s' h' => q p' H' ((((k3.trans s4).trans s5).trans s6).trans s') ?_⟩
        · rw [List.length_append, List.length_map, List.length_singleton, bv_len]; exact small _ (by have : (Lf 19 ((byIs ls es).length : Int)).length ≤ 20 := ll; omega)
        · have e9 : bv (byI (.lst st ls es)) = [V.int ((st : Int) + 2)] ++ (Lf 19 ((byIs ls es).length : Int)).map V.int ++ bv (byIs ls es) := by
            simp only [byI, bv, List.map_cons, List.map_append, List.append_assoc]; rfl
          rw [e9]; exact h'
end
end K10
namespace K10
open PySem PySem.Spec PyProof.Rows L2 K01 K03
abbrev s_behind_long : Stmt := top 14
abbrev N_behind_long : List Str := ["file", "at"]
theorem sc_behind_long : FnScope N_behind_long ["file", "at"] (defScope s_behind_long) := ⟨rfl, rfl, rfl, by decide +kernel, rfl, by decide +kernel, by decide +kernel⟩
abbrev s_long_at : Stmt := top 15
abbrev N_long_at : List Str := ["file", "at", "n", "figure"]
theorem sc_long_at : FnScope N_long_at ["file", "at"] (defScope s_long_at) := ⟨rfl, rfl, rfl, by decide +kernel, rfl, by decide +kernel, by decide +kernel⟩
abbrev s_behind_item : Stmt := top 26
abbrev N_behind_item : List Str := ["file", "at", "behind"]
theorem sc_behind_item : FnScope N_behind_item ["file", "at"] (defScope s_behind_item) := ⟨rfl, rfl, rfl, by decide +kernel, rfl, by decide +kernel, by decide +kernel⟩
def Pre (bs : List Int) (a e : Nat) (xs : List Int) : Prop := (∃ rest, bs.drop a = xs ++ rest) ∧ a + xs.length ≤ e
theorem Pre.cons {bs : List Int} {a e : Nat} {x : Int} {xs : List Int} (p : Pre bs a e (x :: xs)) : bs[a]? = some x ∧ a < e ∧ Pre bs (a + 1) e xs := by
  obtain ⟨⟨rest, h⟩, l⟩ := p
  rw [List.length_cons] at l
  refine ⟨?_, by omega, ⟨rest, ?_⟩, by omega⟩
  · have : (bs.drop a)[0]? = some x := by rw [h]; rfl
    rwa [List.getElem?_drop] at this
  · rw [← List.drop_drop, h]; rfl
theorem Pre.app {bs : List Int} {a e : Nat} {xs ys : List Int} (p : Pre bs a e (xs ++ ys)) : Pre bs a e xs ∧ Pre bs (a + xs.length) e ys := by
  obtain ⟨⟨rest, h⟩, l⟩ := p
  rw [List.length_append] at l
  refine ⟨⟨⟨ys ++ rest, by rw [h, List.append_assoc]⟩, by omega⟩, ⟨rest, ?_⟩, by omega⟩
  rw [← List.drop_drop, h, List.append_assoc, List.drop_left]
theorem bvAt {bs : List Int} {j : Nat} {x : Int} (h : bs[j]? = some x) : (bv bs)[j]? = some (.int x) := by rw [bv, List.getElem?_map, h]; rfl
def unL (l : List Int) : Int := l.reverse.foldl (fun n b => n * 128 + b % 128) 0
theorem unL_cons (b : Int) (l : List Int) : unL (b :: l) = unL l * 128 + b % 128 := by
  unfold unL
  rw [List.reverse_cons, List.foldl_append]
  rfl
theorem unL_Lf : ∀ (k : Nat) (n : Int), 0 ≤ n → n < 128 ^ (k + 1) → unL (Lf k n) = n := by
  intro k
  induction k with
  | zero =>
    intro n h0 h1
    have h1 : n < 128 := by simpa using h1
    rw [Lf_small 0 h1]
    show 0 * 128 + n % 128 = n
    omega
  | succ k ih =>
    intro n h0 h1
    by_cases c : 128 ≤ n
    · rw [Lf_big k c, unL_cons, ih (n / 128) (by omega) (div_lt h1)]
      omega
    · rw [Lf_small (k + 1) (by omega)]
      show 0 * 128 + n % 128 = n
      omega
theorem foldr_bytes (l : List Int) : ∀ n : Int, 0 ≤ n → 0 ≤ l.foldl (fun n b => n * 128 + b % 128) n := by
  induction l with
  | nil => intro n h; exact h
  | cons b l ih => intro n h; exact ih _ (by show 0 ≤ n * 128 + b % 128; omega)
theorem fold_take {l : List Int} {i : Nat} {b : Int} (h : l[i]? = some b) : (l.take (i + 1)).foldl (fun n b => n * 128 + b % 128) (0 : Int) = (l.take i).foldl (fun n b => n * 128 + b % 128) 0 * 128 + b % 128 := by
  have hi : i < l.length := (List.getElem?_eq_some_iff.mp h).1
  rw [List.take_succ, h, List.foldl_append]
  rfl
theorem cut_nat (xs : List V) {a b : Nat} (h : a ≤ b) (hb : b ≤ xs.length) : cutV xs (some (a : Int)) (some (b : Int)) = (xs.drop a).take (b - a) := by
  unfold cutV
  rw [HT.sIx_nat, HT.sIx_nat, Nat.min_eq_left hb, Nat.min_eq_left (Nat.le_trans h hb)]
theorem pre_cut {bs xs : List Int} {a e : Nat} (p : Pre bs a e xs) (he : a + xs.length ≤ bs.length) : cutV (bv bs) (some (a : Int)) (some ((a + xs.length : Nat) : Int)) = bv xs := by
  obtain ⟨⟨r, h⟩, _⟩ := p
  rw [cut_nat _ (by omega) (by rw [bv_len]; omega), bv, ← List.map_drop, h, List.map_append, show a + xs.length - a = (xs.map V.int).length by rw [List.length_map]; omega, List.take_left]
  rfl
theorem Pre.le {bs xs : List Int} {a e : Nat} (p : Pre bs a e xs) (hx : xs ≠ []) : a + xs.length ≤ bs.length := by
  obtain ⟨⟨r, h⟩, _⟩ := p
  have z := congrArg List.length h
  rw [List.length_drop, List.length_append] at z
  have : 1 ≤ xs.length := by cases xs with
    | nil => exact absurd rfl hx
    | cons x xs => rw [List.length_cons]; omega
  omega
theorem Lf_ne (k : Nat) (n : Int) : Lf k n ≠ [] := by
  cases k with
  | zero => unfold Lf; simp
  | succ k => by_cases c : 128 ≤ n
              · rw [Lf_big k c]; simp
              · rw [Lf_small _ (by omega)]; simp
def LgAt (bs : List Int) (at' : Nat) (n : Int) : Prop := (∃ rest, bs.drop at' = Lg n ++ rest) ∧ 0 ≤ n ∧ n ≤ 10000000000000000000
def spBL (K : PySem.W.Frag) : Sp := fun vs H Q _ => ∃ (a : Addr) (bs : List Int) (p : Nat) (n : Int), vs = [.ref a, .int p] ∧ SqT K H a (bv bs) ∧ LgAt bs p n ∧ Q (.int ((p + (Lg n).length : Nat) : Int)) H
def spLA (K : PySem.W.Frag) : Sp := fun vs H Q _ => ∃ (a : Addr) (bs : List Int) (p : Nat) (n : Int), vs = [.ref a, .int p] ∧ SqT K H a (bv bs) ∧ LgAt bs p n ∧ ∀ H', Same H H' → Q (.int n) H'
section
variable {P : Program} {w : World} {K : PySem.W.Frag} {mg : Str → Option Value} {base : Heap} {f : Addr} {fd : FuncData}
theorem ok_bl (F : Fun K "behind_long" "behind_long" s_behind_long f fd) : FnOk P w K mg base CX0 1 f fd ["file", "at"] (spBL K) := by
  refine F.ok sc_behind_long (fun vs H Q E h => ?_) (fun cdv A outer s H vs Q E hr h => ?_)
  · obtain ⟨a, bs, p, n, rfl, _⟩ := h
    rfl
  obtain ⟨a, bs, p0, n, rfl, hS, ⟨⟨rest, hx⟩, h0, h1⟩, q⟩ := h
  have hp : Pre bs p0 (p0 + (Lg n).length) (Lg n) := ⟨⟨rest, hx⟩, Nat.le_refl _⟩
  refine ⟨_, (@pss_cons _ _ _ _ _ (@ps_while _ _ _ _ _ _ PassesOwn.never (@pt_cmpR _ _ _ _ _ _ _ _ op_ge (@pe_ix _ _ _ _ _ _ _ ix_tup (pv 0) (pv 1) (fun _ _ =>  rfl)) pe_int (nomark _)) (@pss_one _ _ _ (@ps_setI _ 1 _ _ _ _ _ sc_behind_long.nd rfl (by first | exact Or.inl rfl | exact Or.inr rfl) (@pe_op _ _ _ _ _ _ _ _ op_add (pv 1) pe_int) rfl (by first | exact .inl rfl | exact .inr rfl)))) (@pss_one _ _ _ (@ps_ret _ _ _ _ (@pe_op _ _ _ _ _ _ _ _ op_add (pv 1) pe_int)))), ?_⟩
  refine ⟨fun μ σ H1 => H1 = H ∧ ∃ (p k : Nat) (x : Int), μ = p0 + (Lg n).length - p ∧ σ = [some (.ref a), some (.int (p : Int))] ∧ p + (Lf k x).length = p0 + (Lg n).length ∧ Pre bs p (p0 + (Lg n).length) (Lf k x) ∧ 0 ≤ x ∧ x < 128 ^ (k + 1),
    ⟨_, rfl, p0, 19, n, rfl, rfl, rfl, hp, h0, lt20 h1⟩, ?_⟩
  rintro μ σ H1 ⟨rfl, p, k, x, rfl, rfl, el, pr, x0, xk⟩
  have e1 : (p : Int) + 1 = ((p + 1 : Nat) : Int) := by omega
  by_cases c : 128 ≤ x
  · obtain ⟨j, rfl⟩ := more c xk
    rw [Lf_big j c] at pr el
    obtain ⟨gb, lt, pr'⟩ := pr.cons
    rw [List.length_cons] at el
    refine ⟨_, rfl, _, rfl, a, _, _, _, rfl, rfl, hS, atI_nat (bvAt gb), _, _, rfl, rfl, _, rfl, iteY (decide_eq_true (show (128 : Int) ≤ x % 128 + 128 by omega)) ⟨fun σ' H' => ∃ m', m' < p0 + (Lg n).length - p ∧ _, fun σ' H' h => h, ?_⟩⟩
    refine ⟨_, rfl, _, _, rfl, rfl, ?_⟩
    refine ⟨p0 + (Lg n).length - (p + 1), by omega, rfl, p + 1, j, x / 128, rfl, ?_, by omega, pr', by omega, div_lt xk⟩
    show [some (V.ref a), some (V.int ((p : Int) + 1))] = _
    rw [e1]
  · have c' : x < 128 := by omega
    rw [Lf_small k c'] at pr el
    obtain ⟨gb, lt, _⟩ := pr.cons
    rw [List.length_singleton] at el
    refine ⟨_, rfl, _, rfl, a, _, _, _, rfl, rfl, hS, atI_nat (bvAt gb), _, _, rfl, rfl, _, rfl, iteN (decide_eq_false (show ¬ (128 : Int) ≤ x by omega)) ?_⟩
    refine ⟨_, rfl, _, _, rfl, rfl, ?_⟩
    show Q (.int ((p : Int) + 1)) H1
    rw [e1, el]
    exact q
theorem ok_la (F : Fun K "long_at" "long_at" s_long_at f fd) (m : Bn mg) (g_behind_long : Fn P w K mg base 1 "behind_long" ["file", "at"] (spBL K)) : FnOk P w K mg base CX0 2 f fd ["file", "at"] (spLA K) := by
  refine F.ok sc_long_at (fun vs H Q E h => ?_) (fun cdv A outer s H vs Q E hr h => ?_)
  · obtain ⟨a, bs, p, n, rfl, _⟩ := h
    rfl
  obtain ⟨a, bs, p0, n, rfl, hS, la, q⟩ := h
  obtain ⟨⟨rest, hx⟩, h0, h1⟩ := id la
  have hp : Pre bs p0 (p0 + (Lg n).length) (Lg n) := ⟨⟨rest, hx⟩, Nat.le_refl _⟩
  refine ⟨_, (@pss_cons _ _ _ _ _ (@ps_setI _ 2 _ _ _ _ _ sc_long_at.nd rfl (by first | exact Or.inl rfl | exact Or.inr rfl) pe_int rfl (by first | exact .inl rfl | exact .inr rfl)) (@pss_cons _ _ _ _ _ (@ps_for _ _ _ _ _ _ _ _ PassesOwn.never rfl (@pi_rev _ _ _ _ _ _ rfl m.reversed (@pa_cons _ _ _ _ _ (@pe_slice _ _ _ _ _ _ _ _ _ _ sl_tupG (pv 0) (@po_some _ _ _ (pv 1)) (@po_some _ _ _ (@pe_callF _ _ _ _ _ _ _ _ _ _ g_behind_long (hr.mono (by omega)) rfl (@pa_cons _ _ _ _ _ (pv 0) (@pa_cons _ _ _ _ _ (pv 1) pa_nil rfl) rfl) (by decide) rfl rfl))) pa_nil rfl) rfl rfl) (@pg_nameI _ 3 _ _ sc_long_at.nd rfl (Or.inl rfl) (by first | exact .inl rfl | exact .inr rfl)) (@pss_one _ _ _ (@ps_setI _ 2 _ _ _ _ _ sc_long_at.nd rfl (by first | exact Or.inl rfl | exact Or.inr rfl) (@pe_op _ _ _ _ _ _ _ _ op_add (@pe_op _ _ _ _ _ _ _ _ op_mul (pv 2) pe_int) (@pe_op _ _ _ _ _ _ _ _ op_mod (pv 3) pe_int)) rfl (by first | exact .inl rfl | exact .inr rfl))) (by first | rfl | decide | (intro _; rfl) | exact .inl rfl | exact .inr rfl | assumption)) (@pss_one _ _ _ (@ps_ret _ _ _ _ (pv 2))))), ?_⟩
  refine ⟨_, rfl, _, rfl, _, rfl, _, rfl, _, rfl, a, bs, p0, n, rfl, hS, la, _, rfl, a, _, rfl, hS, fun c H2 s2 hc => ?_⟩
  rw [pre_cut hp (hp.le (Lf_ne 19 n))] at hc
  refine ⟨c, _, rfl, hc, for_rev (xs := bv (Lg n)) (fun i σ H3 => H3 = H2 ∧ ∃ o, σ = [some (.ref a), some (.int (p0 : Int)), some (.int (((Lg n).reverse.take i).foldl (fun n b => n * 128 + b % 128) 0)), o]) ⟨rfl, _, rfl⟩ ?_ ?_ ?_⟩
  · rintro i σ H3 hi ⟨rfl, _⟩
    exact hc
  · rintro i x σ H3 hi ⟨rfl, o, rfl⟩
    rw [bv, ← List.map_reverse, List.getElem?_map] at hi
    obtain ⟨b, hb, rfl⟩ := Option.map_eq_some_iff.mp hi
    have nn := foldr_bytes ((Lg n).reverse.take i) 0 (Int.le_refl _)
    refine ⟨_, rfl, _, _, rfl, rfl, .inr ⟨by decide, by decide⟩, _, rfl, _, _, rfl, rfl, (by show (0 : Int) < 128; decide), _, _, rfl, rfl, ?_⟩
    refine ⟨rfl, some (.int b), ?_⟩
    rw [fold_take hb]
    rfl
  · rintro σ H3 ⟨rfl, o, rfl⟩
    refine ⟨_, rfl, ?_⟩
    have e : ((Lg n).reverse.take (bv (Lg n)).length).foldl (fun n b => n * 128 + b % 128) 0 = n := by
      rw [bv_len, ← List.length_reverse, List.take_length]
      exact unL_Lf 19 n h0 (lt20 h1)
    show Q (.int (((Lg n).reverse.take (bv (Lg n)).length).foldl (fun n b => n * 128 + b % 128) 0)) H3
    rw [e]
    exact q H3 s2
end
end K10
namespace K10
open PySem PySem.Spec PyProof.Rows L2 K01 K03
abbrev s_room_parts : Stmt := top 23
abbrev N_room_parts : List Str := ["file", "at", "sort", "begin", "end", "parts", "place", "label"]
theorem sc_room_parts : FnScope N_room_parts ["file", "at"] (defScope s_room_parts) := ⟨rfl, rfl, rfl, by decide +kernel, rfl, by decide +kernel, by decide +kernel⟩
abbrev s_behind_label : Stmt := top 24
abbrev N_behind_label : List Str := ["file", "at", "sort"]
theorem sc_behind_label : FnScope N_behind_label ["file", "at", "sort"] (defScope s_behind_label) := ⟨rfl, rfl, rfl, by decide +kernel, rfl, by decide +kernel, by decide +kernel⟩
inductive Sk : List Int → Prop
  | who (n : Int) (h0 : 0 ≤ n) (h1 : n ≤ 10000000000000000000) : Sk (0 :: Lg n)
  | szd (k : Nat) (h0 : 1 ≤ k) (h1 : k ≤ 4) (r : List Int) (hr : r.length ≤ 1000000) : Sk ((k : Int) :: (Lg (r.length : Int) ++ r))
  | arm (n : Int) (h0 : 0 ≤ n) (h1 : n ≤ 10000000000000000000) (r : List Int) (h : Sk r) : Sk (5 :: (Lg n ++ r))
def At (bs : List Int) (p : Nat) (l : List Int) : Prop := ∃ rest, bs.drop p = l ++ rest
theorem At.cons {bs : List Int} {p : Nat} {x : Int} {l : List Int} (h : At bs p (x :: l)) : bs[p]? = some x ∧ At bs (p + 1) l := by
  obtain ⟨r, h⟩ := h
  refine ⟨?_, r, ?_⟩
  · have z : (bs.drop p)[0]? = some x := by rw [h]; rfl
    rwa [List.getElem?_drop] at z
  · rw [← List.drop_drop, h]; rfl
theorem At.app {bs : List Int} {p : Nat} {l l' : List Int} (h : At bs p (l ++ l')) : At bs p l ∧ At bs (p + l.length) l' := by
  obtain ⟨r, h⟩ := h
  refine ⟨⟨l' ++ r, by rw [h, List.append_assoc]⟩, r, ?_⟩
  rw [← List.drop_drop, h, List.append_assoc, List.drop_left]
theorem At.lg {bs : List Int} {p : Nat} {n : Int} (h : At bs p (Lg n)) (h0 : 0 ≤ n) (h1 : n ≤ 10000000000000000000) : LgAt bs p n := ⟨h, h0, h1⟩
theorem Sk.ne {l : List Int} (h : Sk l) : 1 ≤ l.length := by cases h <;> (rw [List.length_cons]; omega)
def sorts : List Str := ["whole", "text", "row", "map", "rec", "arm"]
theorem sorts_at {k : Nat} (h : k ≤ 5) : ∃ z, sorts[k]? = some z ∧ decide (V.str z = V.str "arm") = decide (k = 5) ∧ decide (V.str z = V.str "whole") = decide (k = 0) ∧ decide (V.str z = V.str "row") = decide (k = 2) ∧ decide (V.str z = V.str "map") = decide (k = 3) ∧ decide (V.str z = V.str "rec") = decide (k = 4) := by
  have z : ∃ z, sorts[k]? = some z ∧ ((z == "arm") = decide (k = 5)) ∧ ((z == "whole") = decide (k = 0)) ∧ ((z == "row") = decide (k = 2)) ∧ ((z == "map") = decide (k = 3)) ∧ ((z == "rec") = decide (k = 4)) := by
    match k, h with
    | 0, _ => exact ⟨"whole", rfl, by decide +kernel⟩
    | 1, _ => exact ⟨"text", rfl, by decide +kernel⟩
    | 2, _ => exact ⟨"row", rfl, by decide +kernel⟩
    | 3, _ => exact ⟨"map", rfl, by decide +kernel⟩
    | 4, _ => exact ⟨"rec", rfl, by decide +kernel⟩
    | 5, _ => exact ⟨"arm", rfl, by decide +kernel⟩
  have b2 : ∀ {x y : Str}, decide (V.str x = V.str y) = (x == y) := fun {x y} => by
    by_cases e : x = y
    · subst e; simp
    · rw [decide_eq_false (by intro q; injection q with q; exact e q)]
      exact (beq_eq_false_iff_ne.mpr e).symm
  obtain ⟨s, h1, h2, h3, h4, h5, h6⟩ := z
  exact ⟨s, h1, by rw [b2]; exact h2, by rw [b2]; exact h3, by rw [b2]; exact h4, by rw [b2]; exact h5, by rw [b2]; exact h6⟩
def spBI (K : PySem.W.Frag) : Sp := fun vs H Q _ => ∃ (a : Addr) (bs : List Int) (p : Nat) (l : List Int), vs = [.ref a, .int p] ∧ SqT K H a (bv bs) ∧ At bs p l ∧ Sk l ∧ ∀ H', Same H H' → Q (.int ((p + l.length : Nat) : Int)) H'
section
variable {P : Program} {w : World} {K : PySem.W.Frag} {mg : Str → Option Value} {base : Heap} {f : Addr} {fd : FuncData} {aS : Addr}
theorem so_at {H : Hp} (so : SortsOk K aS) {k : Nat} {z : Str} (h : sorts[k]? = some z) : atI (sorts.map V.str) ((k : Nat) : Int) = some (.str z) := atI_nat (by rw [List.getElem?_map, h]; rfl)
theorem ok_bi (F : Fun K "behind_item" "behind_item" s_behind_item f fd) (so : SortsOk K aS) (x_SORTS : mg "SORTS" = some (.ref aS)) (g_behind_long : Fn P w K mg base 1 "behind_long" ["file", "at"] (spBL K)) (g_long_at : Fn P w K mg base 2 "long_at" ["file", "at"] (spLA K)) :
    FnOk P w K mg base CX0 3 f fd ["file", "at"] (spBI K) := by
  refine F.ok sc_behind_item (fun vs H Q E h => ?_) (fun cdv A outer s H vs Q E hr h => ?_)
  · obtain ⟨a, bs, p, n, rfl, _⟩ := h
    rfl
  obtain ⟨a, bs, p0, l0, rfl, hS, hat, hsk, q⟩ := h
  refine ⟨_, (@pss_cons _ _ _ _ _ (@ps_while _ _ _ _ _ _ PassesOwn.never (@pt_cmpR _ _ _ _ _ _ _ _ op_eq (@pe_ix _ _ _ _ _ _ _ ix_tup (@pe_globR _ _ _ _ rfl x_SORTS (by decide)) (@pe_ix _ _ _ _ _ _ _ ix_tup (pv 0) (pv 1) (fun _ _ =>  rfl)) (fun _ _ =>  rfl)) pe_str (nomark _)) (@pss_one _ _ _ (@ps_setI _ 1 _ _ _ _ _ sc_behind_item.nd rfl (by first | exact Or.inl rfl | exact Or.inr rfl) (@pe_callF _ _ _ _ _ _ _ _ _ _ g_behind_long (hr.mono (by omega)) rfl (@pa_cons _ _ _ _ _ (pv 0) (@pa_cons _ _ _ _ _ (@pe_op _ _ _ _ _ _ _ _ op_add (pv 1) pe_int) pa_nil rfl) rfl) (by decide) rfl rfl) rfl (by first | exact .inl rfl | exact .inr rfl)))) (@pss_cons _ _ _ _ _ (@ps_setI _ 2 _ _ _ _ _ sc_behind_item.nd rfl (by first | exact Or.inl rfl | exact Or.inr rfl) (@pe_callF _ _ _ _ _ _ _ _ _ _ g_behind_long (hr.mono (by omega)) rfl (@pa_cons _ _ _ _ _ (pv 0) (@pa_cons _ _ _ _ _ (@pe_op _ _ _ _ _ _ _ _ op_add (pv 1) pe_int) pa_nil rfl) rfl) (by decide) rfl rfl) rfl (by first | exact .inl rfl | exact .inr rfl)) (@pss_cons _ _ _ _ _ (@ps_if _ _ _ _ _ _ _ _ (@pt_cmpR _ _ _ _ _ _ _ _ op_eq (@pe_ix _ _ _ _ _ _ _ ix_tup (@pe_globR _ _ _ _ rfl x_SORTS (by decide)) (@pe_ix _ _ _ _ _ _ _ ix_tup (pv 0) (pv 1) (fun _ _ =>  rfl)) (fun _ _ =>  rfl)) pe_str (nomark _)) (@pss_one _ _ _ (@ps_ret _ _ _ _ (pv 2))) pss_nil) (@pss_one _ _ _ (@ps_ret _ _ _ _ (@pe_op _ _ _ _ _ _ _ _ op_add (pv 2) (@pe_callF _ _ _ _ _ _ _ _ _ _ g_long_at (hr.mono (by omega)) rfl (@pa_cons _ _ _ _ _ (pv 0) (@pa_cons _ _ _ _ _ (@pe_op _ _ _ _ _ _ _ _ op_add (pv 1) pe_int) pa_nil rfl) rfl) (by decide) rfl rfl))))))), ?_⟩
  refine ⟨fun μ σ H1 => H1 = H ∧ ∃ (p : Nat) (l : List Int) (o : Option V), μ = l.length ∧ σ = [some (.ref a), some (.int (p : Int)), o] ∧ p + l.length = p0 + l0.length ∧ At bs p l ∧ Sk l,
    ⟨_, rfl, p0, l0, _, rfl, rfl, rfl, hat, hsk⟩, ?_⟩
  rintro μ σ H1 ⟨rfl, p, l, o, rfl, rfl, el, al, sk⟩
  have e1 : (p : Int) + 1 = ((p + 1 : Nat) : Int) := by omega
  have ints1 : [V.ref a, V.int ((p : Int) + 1)] = [.ref a, .int ((p + 1 : Nat) : Int)] := by rw [e1]
  cases sk with
  | who n h0 h1 =>
    obtain ⟨gb, al'⟩ := al.cons
    refine ⟨_, rfl, _, rfl, a, _, _, _, rfl, rfl, hS, atI_nat (bvAt gb), aS, _, _, _, rfl, rfl, so.sq _, rfl, rfl, _, rfl, iteN (by decide +kernel) ?_⟩
    refine ⟨_, rfl, _, rfl, _, _, rfl, rfl, a, bs, p + 1, n, ints1, hS, al'.lg h0 h1, ?_⟩
    refine ⟨_, rfl, _, rfl, a, _, _, _, rfl, rfl, hS, atI_nat (bvAt gb), aS, _, _, _, rfl, rfl, so.sq _, rfl, rfl, _, rfl, iteY (by decide +kernel) ⟨_, rfl, ?_⟩⟩
    rw [List.length_cons] at el
    rw [show p + 1 + (Lg n).length = p0 + l0.length by omega]
    exact q H1 (Same.refl _)
  | szd k h0 h1 r hr =>
    obtain ⟨gb, al'⟩ := al.cons
    obtain ⟨ag, ar⟩ := al'.app
    obtain ⟨z, hz, za, zw, _⟩ := sorts_at (k := k) (by omega)
    have lg := ag.lg (Int.natCast_nonneg _) (by omega)
    rw [List.length_cons, List.length_append] at el
    refine ⟨_, rfl, _, rfl, a, _, _, _, rfl, rfl, hS, atI_nat (bvAt gb), aS, _, _, _, rfl, rfl, so.sq _, so_at (H := H1) so hz, rfl, _, rfl, iteN (by rw [za]; exact decide_eq_false (by omega)) ?_⟩
    refine ⟨_, rfl, _, rfl, _, _, rfl, rfl, a, bs, p + 1, (r.length : Int), ints1, hS, lg, ?_⟩
    refine ⟨_, rfl, _, rfl, a, _, _, _, rfl, rfl, hS, atI_nat (bvAt gb), aS, _, _, _, rfl, rfl, so.sq _, so_at (H := H1) so hz, rfl, _, rfl, iteN (by rw [zw]; exact decide_eq_false (by omega)) ?_⟩
    refine ⟨_, rfl, _, rfl, _, rfl, _, _, rfl, rfl, a, bs, p + 1, (r.length : Int), ints1, hS, lg, fun H2 s2 => ?_⟩
    refine ⟨_, _, rfl, rfl, ?_⟩
    show Q (.int (((p + 1 + (Lg (r.length : Int)).length : Nat) : Int) + (r.length : Int))) H2
    rw [show (((p + 1 + (Lg (r.length : Int)).length : Nat) : Int) + (r.length : Int)) = ((p0 + l0.length : Nat) : Int) by omega]
    exact q H2 s2
  | arm n h0 h1 r sr =>
    obtain ⟨gb, al'⟩ := al.cons
    obtain ⟨ag, ar⟩ := al'.app
    rw [List.length_cons, List.length_append] at el
    have l1 : 1 ≤ (Lg n).length := by
      have := Lf_ne 19 n
      unfold Lg
      cases e : Lf 19 n with
      | nil => exact absurd e this
      | cons x xs => rw [List.length_cons]; omega
    refine ⟨_, rfl, _, rfl, a, _, _, _, rfl, rfl, hS, atI_nat (bvAt gb), aS, _, _, _, rfl, rfl, so.sq _, rfl, rfl, _, rfl, iteY (by decide +kernel) ⟨fun σ' H' => ∃ m', m' < (5 :: (Lg n ++ r)).length ∧ _, fun σ' H' h => h, ?_⟩⟩
    refine ⟨_, rfl, _, rfl, _, _, rfl, rfl, a, bs, p + 1, n, ints1, hS, ag.lg h0 h1, ?_⟩
    exact ⟨r.length, by rw [List.length_cons, List.length_append]; omega, rfl, p + 1 + (Lg n).length, r, _, rfl, rfl, by omega, ar, sr⟩
end
end K10
namespace K10
open PySem PySem.Spec PyProof.Rows L2 K01 K03
abbrev s_label_at : Stmt := top 25
abbrev N_label_at : List Str := ["file", "at", "sort"]
theorem sc_label_at : FnScope N_label_at ["file", "at", "sort"] (defScope s_label_at) := ⟨rfl, rfl, rfl, by decide +kernel, rfl, by decide +kernel, by decide +kernel⟩
abbrev s_codes_of : Stmt := top 21
abbrev N_codes_of : List Str := ["name"]
theorem sc_codes_of : FnScope N_codes_of ["name"] (defScope s_codes_of) := ⟨rfl, rfl, rfl, by decide +kernel, rfl, by decide +kernel, by decide +kernel⟩
abbrev s_arm_part : Stmt := top 22
abbrev N_arm_part : List Str := ["file", "at"]
theorem sc_arm_part : FnScope N_arm_part ["file", "at"] (defScope s_arm_part) := ⟨rfl, rfl, rfl, by decide +kernel, rfl, by decide +kernel, by decide +kernel⟩
abbrev s_place_behind : Stmt := top 20
abbrev N_place_behind : List Str := ["file", "at", "step", "sort", "wanted", "parts", "label", "place"]
theorem sc_place_behind : FnScope N_place_behind ["file", "at", "step"] (defScope s_place_behind) := ⟨rfl, rfl, rfl, by decide +kernel, rfl, by decide +kernel, by decide +kernel⟩
abbrev s_span_at : Stmt := top 19
abbrev N_span_at : List Str := ["file", "path", "at", "number", "step"]
theorem sc_span_at : FnScope N_span_at ["file", "path"] (defScope s_span_at) := ⟨rfl, rfl, rfl, by decide +kernel, rfl, by decide +kernel, by decide +kernel⟩
def Bnd (fs : List (List Int)) : List Int := 2 :: (Lg ((fs.flatten).length : Int) ++ fs.flatten)
structure BOk (fs : List (List Int)) : Prop where
  sk : ∀ f ∈ fs, Sk f
  ln : fs.flatten.length ≤ 1000000
def off (fs : List (List Int)) (i : Nat) : Nat := 1 + (Lg ((fs.flatten).length : Int)).length + (fs.take i).flatten.length
def prts (fs : List (List Int)) : List D := (List.range fs.length).map fun i : Nat => D.tup [.int (i : Int), .int (off fs i : Int)]
theorem flat_at {fs : List (List Int)} {i : Nat} {f : List Int} (h : fs[i]? = some f) : fs.flatten = (fs.take i).flatten ++ (f ++ (fs.drop (i + 1)).flatten) := by
  have hi : i < fs.length := (List.getElem?_eq_some_iff.mp h).1
  have e : fs = fs.take i ++ (f :: fs.drop (i + 1)) := by
    rw [show f = fs[i] from ((List.getElem?_eq_some_iff.mp h).2).symm, List.getElem_cons_drop, List.take_append_drop]
  conv => lhs; rw [e]
  rw [List.flatten_append, List.flatten_cons]
theorem take_flat {fs : List (List Int)} {i : Nat} {f : List Int} (h : fs[i]? = some f) : (fs.take (i + 1)).flatten = (fs.take i).flatten ++ f := by
  rw [List.take_succ, h, List.flatten_append]
  simp
theorem off_succ {fs : List (List Int)} {i : Nat} {f : List Int} (h : fs[i]? = some f) : off fs (i + 1) = off fs i + f.length := by
  unfold off
  rw [take_flat h, List.length_append]
  omega
theorem at_off {fs : List (List Int)} {i : Nat} {f : List Int} (h : fs[i]? = some f) : At (Bnd fs) (off fs i) f := by
  refine ⟨(fs.drop (i + 1)).flatten, ?_⟩
  unfold Bnd off
  rw [show 1 + (Lg ((fs.flatten).length : Int)).length + (fs.take i).flatten.length = (Lg ((fs.flatten).length : Int)).length + (fs.take i).flatten.length + 1 by omega, List.drop_succ_cons, ← List.drop_drop, List.drop_left]
  conv => lhs; rw [flat_at h]
  rw [List.drop_left]
theorem lg_bnd (fs : List (List Int)) (b : BOk fs) : LgAt (Bnd fs) 1 ((fs.flatten).length : Int) := ⟨⟨fs.flatten, rfl⟩, Int.natCast_nonneg _, by have := b.ln; omega⟩
theorem prts_get {fs : List (List Int)} {i : Nat} (h : i < fs.length) : (prts fs)[i]? = some (D.tup [.int (i : Int), .int (off fs i : Int)]) := by
  unfold prts
  rw [List.getElem?_map, List.getElem?_range h]
  rfl
theorem prts_len (fs : List (List Int)) : (prts fs).length = fs.length := by unfold prts; rw [List.length_map, List.length_range]
theorem noLs_prts (fs : List (List Int)) : ∀ i, noLs ((prts fs).take i) = true := by
  have h : ∀ ds : List D, (∀ d ∈ ds, noL d = true) → noLs ds = true := by
    intro ds
    induction ds with
    | nil => intro _; rfl
    | cons d ds ih => intro h; simp only [noLs, Bool.and_eq_true]; exact ⟨h d List.mem_cons_self, ih fun e m => h e (List.mem_cons_of_mem _ m)⟩
  intro i
  refine h _ fun d m => ?_
  obtain ⟨j, _, rfl⟩ := List.mem_map.mp (List.mem_of_mem_take m)
  rfl
def spNone : Sp := fun _ _ _ _ => False
def spBLb : Sp := fun vs H Q _ => ∃ (x : V) (p : Int), vs = [x, .int p, .str "row"] ∧ Q (.int p) H
def spRP (K : PySem.W.Frag) : Sp := fun vs H Q _ => ∃ (a : Addr) (fs : List (List Int)), vs = [.ref a, .int 0] ∧ SqT K H a (bv (Bnd fs)) ∧ BOk fs ∧ ∀ (r : Addr) (us : List V) (H' : Hp), Same H H' → H' r = some (.lst us) → AreD K H' (prts fs) us → Q (.ref r) H'
section
variable {P : Program} {w : World} {K : PySem.W.Frag} {mg : Str → Option Value} {base : Heap} {f : Addr} {fd : FuncData} {aS : Addr}
theorem ok_label_at (F : Fun K "label_at" "label_at" s_label_at f fd) : FnOk P w K mg base CX0 1 f fd ["file", "at", "sort"] spNone :=
  F.ok sc_label_at (fun vs H Q E h => h.elim) (fun cdv A outer s H vs Q E hr h => h.elim)
theorem ok_codes_of (F : Fun K "codes_of" "codes_of" s_codes_of f fd) : FnOk P w K mg base CX0 1 f fd ["name"] spNone :=
  F.ok sc_codes_of (fun vs H Q E h => h.elim) (fun cdv A outer s H vs Q E hr h => h.elim)
theorem ok_arm_part (F : Fun K "arm_part" "arm_part" s_arm_part f fd) : FnOk P w K mg base CX0 1 f fd ["file", "at"] spNone :=
  F.ok sc_arm_part (fun vs H Q E h => h.elim) (fun cdv A outer s H vs Q E hr h => h.elim)
theorem ok_behind_label (F : Fun K "behind_label" "behind_label" s_behind_label f fd) (g_behind_long : Fn P w K mg base 1 "behind_long" ["file", "at"] (spBL K)) (g_long_at : Fn P w K mg base 2 "long_at" ["file", "at"] (spLA K)) :
    FnOk P w K mg base CX0 3 f fd ["file", "at", "sort"] spBLb := by
  refine F.ok sc_behind_label (fun vs H Q E h => ?_) (fun cdv A outer s H vs Q E hr h => ?_)
  · obtain ⟨x, p, rfl, _⟩ := h
    rfl
  obtain ⟨x, p, rfl, q⟩ := h
  refine ⟨_, (@pss_cons _ _ _ _ _ (@ps_if _ _ _ _ _ _ _ _ (@pt_cmpR _ _ _ _ _ _ _ _ op_eq (pv 2) pe_str (nomark _)) (@pss_one _ _ _ (@ps_ret _ _ _ _ (pv 1))) pss_nil) (@pss_cons _ _ _ _ _ (@ps_if _ _ _ _ _ _ _ _ (@pt_cmpR _ _ _ _ _ _ _ _ op_eq (pv 2) pe_str (nomark _)) (@pss_one _ _ _ (@ps_ret _ _ _ _ (@pe_callF _ _ _ _ _ _ _ _ _ _ g_behind_long (hr.mono (by omega)) rfl (@pa_cons _ _ _ _ _ (pv 0) (@pa_cons _ _ _ _ _ (pv 1) pa_nil rfl) rfl) (by decide) rfl rfl))) pss_nil) (@pss_one _ _ _ (@ps_ret _ _ _ _ (@pe_op _ _ _ _ _ _ _ _ op_add (@pe_callF _ _ _ _ _ _ _ _ _ _ g_behind_long (hr.mono (by omega)) rfl (@pa_cons _ _ _ _ _ (pv 0) (@pa_cons _ _ _ _ _ (pv 1) pa_nil rfl) rfl) (by decide) rfl rfl) (@pe_callF _ _ _ _ _ _ _ _ _ _ g_long_at (hr.mono (by omega)) rfl (@pa_cons _ _ _ _ _ (pv 0) (@pa_cons _ _ _ _ _ (pv 1) pa_nil rfl) rfl) (by decide) rfl rfl)))))), ?_⟩
  exact ⟨_, rfl, rfl, _, rfl, iteY (decide_eq_true rfl) ⟨_, rfl, q⟩⟩
theorem ok_room_parts (F : Fun K "room_parts" "room_parts" s_room_parts f fd) (m : Bn mg) (so : SortsOk K aS) (x_SORTS : mg "SORTS" = some (.ref aS)) (g_behind_long : Fn P w K mg base 1 "behind_long" ["file", "at"] (spBL K)) (g_long_at : Fn P w K mg base 2 "long_at" ["file", "at"] (spLA K))
    (g_behind_item : Fn P w K mg base 3 "behind_item" ["file", "at"] (spBI K)) (g_behind_label : Fn P w K mg base 3 "behind_label" ["file", "at", "sort"] spBLb) (g_label_at : Fn P w K mg base 1 "label_at" ["file", "at", "sort"] spNone) :
    FnOk P w K mg base CX0 4 f fd ["file", "at"] (spRP K) := by
  refine F.ok sc_room_parts (fun vs H Q E h => ?_) (fun cdv A outer s H vs Q E hr h => ?_)
  · obtain ⟨a, fs, rfl, _⟩ := h
    rfl
  obtain ⟨a, fs, rfl, hS, bok, q⟩ := h
  have lg := lg_bnd fs bok
  have ln := bok.ln
  refine ⟨_, (@pss_cons _ _ _ _ _ (@ps_setI _ 2 _ _ _ _ _ sc_room_parts.nd rfl (by first | exact Or.inl rfl | exact Or.inr rfl) (@pe_ix _ _ _ _ _ _ _ ix_tup (@pe_globR _ _ _ _ rfl x_SORTS (by decide)) (@pe_ix _ _ _ _ _ _ _ ix_tup (pv 0) (pv 1) (fun _ _ =>  rfl)) (fun _ _ =>  rfl)) rfl (by first | exact .inl rfl | exact .inr rfl)) (@pss_cons _ _ _ _ _ (@ps_setI _ 3 _ _ _ _ _ sc_room_parts.nd rfl (by first | exact Or.inl rfl | exact Or.inr rfl) (@pe_callF _ _ _ _ _ _ _ _ _ _ g_behind_long (hr.mono (by omega)) rfl (@pa_cons _ _ _ _ _ (pv 0) (@pa_cons _ _ _ _ _ (@pe_op _ _ _ _ _ _ _ _ op_add (pv 1) pe_int) pa_nil rfl) rfl) (by decide) rfl rfl) rfl (by first | exact .inl rfl | exact .inr rfl)) (@pss_cons _ _ _ _ _ (@ps_setI _ 4 _ _ _ _ _ sc_room_parts.nd rfl (by first | exact Or.inl rfl | exact Or.inr rfl) (@pe_op _ _ _ _ _ _ _ _ op_add (pv 3) (@pe_callF _ _ _ _ _ _ _ _ _ _ g_long_at (hr.mono (by omega)) rfl (@pa_cons _ _ _ _ _ (pv 0) (@pa_cons _ _ _ _ _ (@pe_op _ _ _ _ _ _ _ _ op_add (pv 1) pe_int) pa_nil rfl) rfl) (by decide) rfl rfl)) rfl (by first | exact .inl rfl | exact .inr rfl)) (@pss_cons _ _ _ _ _ (@ps_setI _ 5 _ _ _ _ _ sc_room_parts.nd rfl (by first | exact Or.inl rfl | exact Or.inr rfl) (@pe_lst _ _ _ _ pa_nil) rfl (by first | exact .inl rfl | exact .inr rfl)) (@pss_cons _ _ _ _ _ (@ps_while _ _ _ _ _ _ PassesOwn.never (@pt_cmpR _ _ _ _ _ _ _ _ op_lt (pv 3) (pv 4) (nomark _)) (@pss_cons _ _ _ _ _ (@ps_setI _ 6 _ _ _ _ _ sc_room_parts.nd rfl (by first | exact Or.inl rfl | exact Or.inr rfl) (@pe_callF _ _ _ _ _ _ _ _ _ _ g_behind_label (hr.mono (by omega)) rfl (@pa_cons _ _ _ _ _ (pv 0) (@pa_cons _ _ _ _ _ (pv 3) (@pa_cons _ _ _ _ _ (pv 2) pa_nil rfl) rfl) rfl) (by decide) rfl rfl) rfl (by first | exact .inl rfl | exact .inr rfl)) (@pss_cons _ _ _ _ _ (@ps_setI _ 7 _ _ _ _ _ sc_room_parts.nd rfl (by first | exact Or.inl rfl | exact Or.inr rfl) (@pe_ifExp _ _ _ _ _ _ _ _ (@pt_cmpR _ _ _ _ _ _ _ _ op_eq (pv 2) pe_str (nomark _)) (@pe_callB _ _ _ _ _ _ _ _ _ call_len_seq rfl m.len b_len (@pa_cons _ _ _ _ _ (pv 5) pa_nil rfl) (by decide) (by decide) rfl rfl) (@pe_callF _ _ _ _ _ _ _ _ _ _ g_label_at (hr.mono (by omega)) rfl (@pa_cons _ _ _ _ _ (pv 0) (@pa_cons _ _ _ _ _ (pv 3) (@pa_cons _ _ _ _ _ (pv 2) pa_nil rfl) rfl) rfl) (by decide) rfl rfl)) rfl (by first | exact .inl rfl | exact .inr rfl)) (@pss_cons _ _ _ _ _ (@ps_expr _ _ _ _ (@pe_bm _ _ _ _ _ _ _ _ _ _ _ _ PySem.F.plainAttrs_list PySem.F.slot_list_append PySem.F.type_list_append mt_append (pv 5) (@pa_cons _ _ _ _ _ (@pe_tup _ _ _ _ _ (@pa_cons _ _ _ _ _ (pv 7) (@pa_cons _ _ _ _ _ (pv 6) pa_nil rfl) rfl)) pa_nil rfl) (by first | rfl | decide | (intro _; rfl) | exact .inl rfl | exact .inr rfl | assumption) (by first | rfl | decide | (intro _; rfl) | exact .inl rfl | exact .inr rfl | assumption) (by first | rfl | decide | (intro _; rfl) | exact .inl rfl | exact .inr rfl | assumption) (by first | rfl | decide | (intro _; rfl) | exact .inl rfl | exact .inr rfl | assumption) (by first | rfl | decide | (intro _; rfl) | exact .inl rfl | exact .inr rfl | assumption)) rfl) (@pss_one _ _ _ (@ps_setI _ 3 _ _ _ _ _ sc_room_parts.nd rfl (by first | exact Or.inl rfl | exact Or.inr rfl) (@pe_callF _ _ _ _ _ _ _ _ _ _ g_behind_item (hr.mono (by omega)) rfl (@pa_cons _ _ _ _ _ (pv 0) (@pa_cons _ _ _ _ _ (pv 6) pa_nil rfl) rfl) (by decide) rfl rfl) rfl (by first | exact .inl rfl | exact .inr rfl))))))) (@pss_one _ _ _ (@ps_ret _ _ _ _ (pv 5)))))))), ?_⟩
  refine ⟨_, rfl, _, rfl, a, _, _, .int 2, rfl, rfl, hS, atI_nat (j := 0) rfl, aS, _, 2, .str "row", rfl, rfl, so.sq _, rfl, ?_⟩
  refine ⟨_, rfl, _, rfl, _, _, rfl, rfl, a, _, 1, _, rfl, hS, lg, ?_⟩
  refine ⟨_, rfl, _, rfl, _, rfl, _, _, rfl, rfl, a, _, 1, _, rfl, hS, lg, fun H2 s2 => ⟨_, _, rfl, rfl, ?_⟩⟩
  refine ⟨(by show 0 ≤ sizeLine; decide), fun p hp => ?_⟩
  have hpH : H p = none := s2.free hp
  have o0 : off fs 0 = 1 + (Lg ((fs.flatten).length : Int)).length := by unfold off; simp
  have oE : off fs fs.length = 1 + (Lg ((fs.flatten).length : Int)).length + fs.flatten.length := by unfold off; rw [List.take_length]
  refine ⟨fun μ σ H1 => ∃ (i : Nat) (us : List V) (o6 o7 : Option V), i ≤ fs.length ∧ μ = fs.length - i ∧ σ = [some (.ref a), some (.int 0), some (.str "row"), some (.int ((off fs i : Nat) : Int)), some (.int (((1 + (Lg ((fs.flatten).length : Int)).length : Nat) : Int) + (fs.flatten.length : Int))), some (.ref p), o6, o7] ∧ Same H H1 ∧ H1 p = some (.lst us) ∧ AreD K H1 ((prts fs).take i) us,
    ⟨_, 0, [], _, _, Nat.zero_le _, rfl, by rw [o0]; rfl, s2.put hpH, upd_same, rfl⟩, ?_⟩
  rintro μ σ H1 ⟨i, us, o6, o7, hi, rfl, rfl, s1, hu, au⟩
  by_cases c : i < fs.length
  · have hf : fs[i]? = some fs[i] := List.getElem?_eq_getElem c
    have os := off_succ hf
    have sk := bok.sk _ (List.getElem_mem c)
    have l1 := sk.ne
    have fl := congrArg List.length (flat_at hf)
    rw [List.length_append, List.length_append] at fl
    have oi : off fs i = 1 + (Lg ((fs.flatten).length : Int)).length + (fs.take i).flatten.length := rfl
    have ul : us.length = i := by rw [← au.length, List.length_take, prts_len]; omega
    have hz : us.length < sizeLine := by
      have z := sizeLine_eq
      have : fs.length ≤ fs.flatten.length := by
        have g : ∀ gs : List (List Int), (∀ f ∈ gs, 1 ≤ f.length) → gs.length ≤ gs.flatten.length := by
          intro gs
          induction gs with
          | nil => intro _; exact Nat.le_refl _
          | cons x xs ih =>
            intro h
            have h1 := h x List.mem_cons_self
            have h2 := ih fun f m => h f (List.mem_cons_of_mem _ m)
            rw [List.flatten_cons, List.length_append, List.length_cons]; omega
        exact g fs fun f m => (bok.sk f m).ne
      omega
    refine ⟨_, rfl, _, rfl, _, _, rfl, rfl, _, rfl, iteY (decide_eq_true (by omega)) ⟨fun σ' H' => ∃ m', m' < fs.length - i ∧ _, fun σ' H' h => h, ?_⟩⟩
    refine ⟨_, rfl, _, rfl, _, rfl, _, _, rfl, ?_⟩
    refine ⟨_, rfl, rfl, _, rfl, iteY (decide_eq_true rfl) ⟨_, rfl, p, us, rfl, .inl (SqL.of hu), ?_⟩⟩
    refine ⟨_, rfl, .inl ⟨rfl, _, SqL.of hu⟩, _, rfl, _, rfl, (by show 2 ≤ sizeLine; decide), fun t ht => ?_⟩
    have npt : p ≠ t := ne_of_none hu ht
    have hp3 : upd H1 t (.tup [.int (us.length : Int), .int ((off fs i : Nat) : Int)]) p = some (.lst us) := by rw [upd_ne npt]; exact hu
    refine ⟨p, us, _, rfl, rfl, hp3, hz, ?_⟩
    have s3 : Same H (upd (upd H1 t (.tup [.int (us.length : Int), .int ((off fs i : Nat) : Int)])) p (.lst (us ++ [.ref t]))) := (s1.put (s1.free ht)).put hpH
    have u3 : Up K H1 (upd (upd H1 t (.tup [.int (us.length : Int), .int ((off fs i : Nat) : Int)])) p (.lst (us ++ [.ref t]))) := (up_put ht).trans (up_set hp3)
    refine ⟨_, rfl, _, rfl, a, _, off fs i, fs[i], rfl, s3.up _ _ hS, at_off hf, sk, fun H4 s4 => ?_⟩
    refine ⟨fs.length - (i + 1), by omega, i + 1, us ++ [.ref t], some (.int ((off fs i : Nat) : Int)), some (.int (us.length : Int)), by omega, rfl, ?_, s3.trans s4, s4 _ _ upd_same, ?_⟩
    · rw [os]; rfl
    · rw [List.take_succ, prts_get c]
      refine AreD.append (AreD.up (u3.trans s4.up) _ _ (noLs_prts fs i) au) (AreD.one ⟨t, _, rfl, s4.up _ _ (SqT.of (by rw [upd_ne (Ne.symm npt)]; exact upd_same)), ?_⟩)
      rw [ul]
      exact AreD.two rfl rfl
  · have ei : i = fs.length := by omega
    subst ei
    refine ⟨_, rfl, _, rfl, _, _, rfl, rfl, _, rfl, iteN (decide_eq_false (by omega)) ⟨_, rfl, q p us H1 s1 hu ?_⟩⟩
    rw [← prts_len, List.take_length] at au
    exact au
end
end K10
namespace K10
open PySem PySem.Spec PyProof.Rows L2 K01 K03
abbrev s_nth : Stmt := top 29
abbrev N_nth : List Str := ["bundle", "k", "span"]
theorem sc_nth : FnScope N_nth ["bundle", "k"] (defScope s_nth) := ⟨rfl, rfl, rfl, by decide +kernel, rfl, by decide +kernel, by decide +kernel⟩
abbrev s_NoPlace_init : Stmt := inClass (top 3) 0
abbrev N_NoPlace_init : List Str := ["self", "step"]
theorem sc_NoPlace_init : FnScope N_NoPlace_init ["self", "step"] (defScope s_NoPlace_init) := ⟨rfl, rfl, rfl, by decide +kernel, rfl, by decide +kernel, by decide +kernel⟩
structure StepsOk (K : PySem.W.Frag) (w : World) (a : Addr) : Prop where
  top : TopD K w a
  at' : ∃ u, PySem.W.nsIn K a "at" = some (some u) ∧ RelV (.str "row") u
def NP (C : Addr) (E : XK) (H : Hp) : Prop := ∀ (d : Addr) (H' : Hp), Same H H' → H' d = some (DHO d [("step", .int 0)]) → E (.ref C) (some d) H'
theorem NP.same {C : Addr} {E : XK} {H H1 : Hp} (n : NP C E H) (s : Same H H1) : NP C E H1 := fun d H' s' h => n d H' (s.trans s') h
def spInit (C : Addr) : Sp := fun vs H Q _ => ∃ x y, vs = [.ref x, y] ∧ H x = some (XHO x C none true) ∧
  ∀ (d : Addr) (H' : Hp), H d = none → d ≠ x → (∀ b, b ≠ x → b ≠ d → H' b = H b) → H' x = some (XHO x C (some d) true) → H' d = some (DHO d [("step", y)]) → Q .non H'
theorem np_raise {K : PySem.W.Frag} {C : Addr} {E E' : XK} {H : Hp} (c : XCls K C) (n : NP C E H) : ([V.int 0] : List V).length ≤ 100 ∧ ∀ x, H x = none → spInit C (.ref x :: [V.int 0]) (upd H x (XHO x C none true)) (fun v H2 => v = .non ∧ ∃ a C' od, V.ref x = .ref a ∧ H2 a = some (XHO a C' od true) ∧ XCls K C' ∧ E (.ref C') od (upd H2 a (XHO a C' od false))) E' := by
  refine ⟨by decide, fun x hx => ⟨x, _, rfl, upd_same, fun d H' hd nd keep hx' hd' => ⟨rfl, x, C, some d, rfl, hx', c, n d _ (fun b o e => ?_) ?_⟩⟩⟩
  · have b1 : b ≠ x := fun z => by rw [z, hx] at e; cases e
    have b2 : b ≠ d := fun z => by rw [upd_ne nd, ← z, e] at hd; cases hd
    rw [upd_ne b1, keep b b1 b2, upd_ne b1]; exact e
  · rw [upd_ne nd]; exact hd'
def spPB (K : PySem.W.Frag) : Sp := fun vs H Q _ => ∃ (a st : Addr) (fs : List (List Int)) (k : Int), vs = [.ref a, .int 0, .ref st] ∧ SqT K H a (bv (Bnd fs)) ∧ BOk fs ∧ SqT K H st [.str "at", .int k] ∧
  (∀ j : Nat, k = j → j < fs.length → ∀ H', Same H H' → Q (.int ((off fs j : Nat) : Int)) H') ∧ ((∀ j : Nat, k = j → fs.length ≤ j) → ∀ H', Same H H' → Q .non H')
def spSA (K : PySem.W.Frag) (C : Addr) : Sp := fun vs H Q E => ∃ (a pa st : Addr) (fs : List (List Int)) (k : Int), vs = [.ref a, .ref pa] ∧ SqT K H a (bv (Bnd fs)) ∧ BOk fs ∧ SqT K H pa [.ref st] ∧ SqT K H st [.str "at", .int k] ∧
  (∀ (j : Nat) (g : List Int), k = j → fs[j]? = some g → ∀ r H', Same H H' → SqT K H' r [.int ((off fs j : Nat) : Int), .int ((off fs j + g.length : Nat) : Int)] → Q (.ref r) H') ∧ ((∀ j : Nat, k = j → fs.length ≤ j) → NP C E H)
def spNth (K : PySem.W.Frag) (C : Addr) : Sp := fun vs H Q E => ∃ (a : Addr) (fs : List (List Int)) (k : Int), vs = [.ref a, .int k] ∧ SqT K H a (bv (Bnd fs)) ∧ BOk fs ∧
  (∀ (j : Nat) (g : List Int), k = j → fs[j]? = some g → ∀ r H', Same H H' → SqT K H' r (bv g) → Q (.ref r) H') ∧ ((∀ j : Nat, k = j → fs.length ≤ j) → NP C E H)
theorem isD2i {K : PySem.W.Frag} {H : Hp} {i j : Int} {v : V} (h : IsD K H (.tup [.int i, .int j]) v) : ∃ p, v = .ref p ∧ SqT K H p [.int i, .int j] := by
  obtain ⟨p, x, y, rfl, q, h1, h2⟩ := isD2 h
  obtain rfl : x = .int i := h1
  obtain rfl : y = .int j := h2
  exact ⟨p, rfl, q⟩
theorem bnd_len (fs : List (List Int)) : (Bnd fs).length = 1 + (Lg ((fs.flatten).length : Int)).length + fs.flatten.length := by
  unfold Bnd
  rw [List.length_cons, List.length_append]; omega
theorem cut_at {bs l : List Int} {p : Nat} (h : At bs p l) (hl : 1 ≤ l.length) : cutV (bv bs) (some ((p : Nat) : Int)) (some ((p + l.length : Nat) : Int)) = bv l := by
  have pr : Pre bs p (p + l.length) l := ⟨h, Nat.le_refl _⟩
  exact pre_cut pr (pr.le (by intro e; rw [e] at hl; simp at hl))
section
variable {P : Program} {w : World} {K : PySem.W.Frag} {mg : Str → Option Value} {base : Heap} {f : Addr} {fd : FuncData} {aS aT C fi : Addr} {fdi : FuncData}
theorem ok_init (F : Fun K "__init__" "NoPlace.__init__" s_NoPlace_init f fd) (c : XCls K C) (n : NoAttr K C "step") : FnOk P w K mg base CX0 1 f fd ["self", "step"] (spInit C) := by
  refine F.ok sc_NoPlace_init (fun vs H Q E h => ?_) (fun cdv A outer s H vs Q E hr h => ?_)
  · obtain ⟨x, y, rfl, _⟩ := h
    rfl
  obtain ⟨x, y, rfl, hx, q⟩ := h
  refine ⟨_, (@pss_one _ _ _ (@ps_fldX _ _ _ _ _ _ _ _ (pv 0) (pv 1) rfl)), ?_⟩
  refine ⟨_, rfl, _, rfl, x, C, none, true, rfl, hx, c, n, .inl ⟨rfl, fun d hd nd => ?_⟩⟩
  exact q d _ hd nd (fun b h1 h2 => by rw [upd_ne h1, upd_ne h2]) upd_same (by rw [upd_ne nd, upd_same])
theorem ok_place_behind (F : Fun K "place_behind" "place_behind" s_place_behind f fd) (so : SortsOk K aS) (x_SORTS : mg "SORTS" = some (.ref aS)) (st' : StepsOk K w aT) (x_SORTS_OF_STEPS : mg "SORTS_OF_STEPS" = some (.ref aT))
    (g_room_parts : Fn P w K mg base 4 "room_parts" ["file", "at"] (spRP K)) (g_codes_of : Fn P w K mg base 1 "codes_of" ["name"] spNone) (g_arm_part : Fn P w K mg base 1 "arm_part" ["file", "at"] spNone) :
    FnOk P w K mg base CX0 5 f fd ["file", "at", "step"] (spPB K) := by
  refine F.ok sc_place_behind (fun vs H Q E h => ?_) (fun cdv A outer s H vs Q E hr h => ?_)
  · obtain ⟨a, st, fs, k, rfl, _⟩ := h
    rfl
  obtain ⟨a, st, fs, k, rfl, hS, bok, hst, q1, q2⟩ := h
  obtain ⟨u, hu, ru⟩ := st'.at'
  refine ⟨_, (@pss_cons _ _ _ _ _ (@ps_setI _ 3 _ _ _ _ _ sc_place_behind.nd rfl (by first | exact Or.inl rfl | exact Or.inr rfl) (@pe_ix _ _ _ _ _ _ _ ix_tup (@pe_globR _ _ _ _ rfl x_SORTS (by decide)) (@pe_ix _ _ _ _ _ _ _ ix_tup (pv 0) (pv 1) (fun _ _ =>  rfl)) (fun _ _ =>  rfl)) rfl (by first | exact .inl rfl | exact .inr rfl)) (@pss_cons _ _ _ _ _ (@ps_if _ _ _ _ _ _ _ _ (@pt_cmpR _ _ _ _ _ _ _ _ op_ne (pv 3) (@pe_ix _ _ _ _ _ _ _ ix_topD (@pe_globR _ _ _ _ rfl x_SORTS_OF_STEPS (by decide)) (@pe_ix _ _ _ _ _ _ _ ix_tup (pv 2) pe_int (fun _ _ =>  rfl)) (fun _ _ =>  rfl)) (nomark _)) (@pss_one _ _ _ (@ps_ret _ _ _ _ pe_non)) pss_nil) (@pss_cons _ _ _ _ _ (@ps_setI _ 4 _ _ _ _ _ sc_place_behind.nd rfl (by first | exact Or.inl rfl | exact Or.inr rfl) (@pe_ifExp _ _ _ _ _ _ _ _ (@pt_cmpR _ _ _ _ _ _ _ _ op_eq (pv 3) pe_str (nomark _)) (@pe_callF _ _ _ _ _ _ _ _ _ _ g_codes_of (hr.mono (by omega)) rfl (@pa_cons _ _ _ _ _ (@pe_ix _ _ _ _ _ _ _ ix_tup (pv 2) pe_int (fun _ _ =>  rfl)) pa_nil rfl) (by decide) rfl rfl) (@pe_ix _ _ _ _ _ _ _ ix_tup (pv 2) pe_int (fun _ _ =>  rfl))) rfl (by first | exact .inl rfl | exact .inr rfl)) (@pss_cons _ _ _ _ _ (@ps_setI _ 5 _ _ _ _ _ sc_place_behind.nd rfl (by first | exact Or.inl rfl | exact Or.inr rfl) (@pe_ifExp _ _ _ _ _ _ _ _ (@pt_cmpR _ _ _ _ _ _ _ _ op_eq (pv 3) pe_str (nomark _)) (@pe_lst _ _ _ _ (@pa_cons _ _ _ _ _ (@pe_callF _ _ _ _ _ _ _ _ _ _ g_arm_part (hr.mono (by omega)) rfl (@pa_cons _ _ _ _ _ (pv 0) (@pa_cons _ _ _ _ _ (pv 1) pa_nil rfl) rfl) (by decide) rfl rfl) pa_nil rfl)) (@pe_callF _ _ _ _ _ _ _ _ _ _ g_room_parts (hr.mono (by omega)) rfl (@pa_cons _ _ _ _ _ (pv 0) (@pa_cons _ _ _ _ _ (pv 1) pa_nil rfl) rfl) (by decide) rfl rfl)) rfl (by first | exact .inl rfl | exact .inr rfl)) (@pss_cons _ _ _ _ _ (@ps_for _ _ _ _ _ _ _ _ PassesOwn.never rfl (@pi_list _ _ _ _ (pv 5)) (@pg_tup _ _ _ _ _ _ rfl (@pgs_cons _ _ _ _ _ (@pg_nameI _ 6 _ _ sc_place_behind.nd rfl (Or.inl rfl) (by first | exact .inl rfl | exact .inr rfl)) (@pgs_cons _ _ _ _ _ (@pg_nameI _ 7 _ _ sc_place_behind.nd rfl (Or.inl rfl) (by first | exact .inl rfl | exact .inr rfl)) pgs_nil (by first | rfl | decide | (intro _; rfl) | exact .inl rfl | exact .inr rfl | assumption)) (by first | rfl | decide | (intro _; rfl) | exact .inl rfl | exact .inr rfl | assumption)) (by first | rfl | decide | (intro _; rfl) | exact .inl rfl | exact .inr rfl | assumption) (by first | rfl | decide | (intro _; rfl) | exact .inl rfl | exact .inr rfl | assumption)) (@pss_one _ _ _ (@ps_if _ _ _ _ _ _ _ _ (@pt_cmpR _ _ _ _ _ _ _ _ op_eq (pv 6) (pv 4) (nomark _)) (@pss_one _ _ _ (@ps_ret _ _ _ _ (pv 7))) pss_nil)) (by first | rfl | decide | (intro _; rfl) | exact .inl rfl | exact .inr rfl | assumption)) (@pss_one _ _ _ (@ps_ret _ _ _ _ pe_non))))))), ?_⟩
  refine ⟨_, rfl, _, rfl, a, _, _, .int 2, rfl, rfl, hS, L2.atI_nat (j := 0) rfl, aS, _, 2, .str "row", rfl, rfl, so.sq _, rfl, ?_⟩
  refine ⟨_, rfl, _, rfl, st, _, _, _, rfl, rfl, hst, rfl, aT, "at", .str "row", u, rfl, rfl, st'.top, hu, ru, rfl, _, rfl, iteN (by simp) ?_⟩
  refine ⟨_, rfl, rfl, _, rfl, iteN (by decide +kernel) ⟨_, rfl, st, _, _, _, rfl, rfl, hst, rfl, ?_⟩⟩
  refine ⟨_, rfl, rfl, _, rfl, iteN (by decide +kernel) ⟨_, rfl, _, rfl, a, fs, rfl, hS, bok, fun r us H2 s2 hr2 au => ?_⟩⟩
  have ul : us.length = fs.length := by rw [← au.length, prts_len]
  refine ⟨_, rfl, r, rfl, ⟨_, SqL.of hr2⟩, for_list (xs := us) (fun i σ H3 => (∀ j : Nat, k = j → i ≤ j) ∧ Same H2 H3 ∧ ∃ o6 o7, σ = [some (.ref a), some (.int 0), some (.ref st), some (.str "row"), some (.int k), some (.ref r), o6, o7]) ⟨fun _ _ => Nat.zero_le _, Same.refl _, _, _, rfl⟩ ?_ ?_ ?_⟩
  · rintro i σ H3 hi ⟨_, s3, _⟩
    exact SqL.of (s3 _ _ hr2)
  · rintro i x σ H3 hx ⟨hik, s3, o6, o7, rfl⟩
    have hi : i < fs.length := by have := (List.getElem?_eq_some_iff.mp hx).1; omega
    obtain ⟨x', hx', dx⟩ := au.get (prts_get hi)
    rw [hx] at hx'
    cases hx'
    obtain ⟨t, rfl, ht⟩ := isD2i dx
    refine ⟨t, _, rfl, s3.up _ _ ht, rfl, _, _, rfl, _, _, rfl, rfl, ?_⟩
    refine ⟨_, rfl, _, rfl, rfl, _, rfl, ?_⟩
    by_cases e : k = (i : Int)
    · subst e
      exact iteY (decide_eq_true rfl) ⟨_, rfl, q1 i rfl hi H3 (s2.trans s3)⟩
    · exact iteN (decide_eq_false (by intro z; injection z with z; exact e z.symm)) ⟨fun j hj => by have := hik j hj; omega, s3, _, _, rfl⟩
  · rintro σ H3 ⟨h, s3, _⟩
    rw [ul] at h
    exact q2 h H3 (s2.trans s3)
theorem ok_span_at (F : Fun K "span_at" "span_at" s_span_at f fd) (m : Bn mg) (g_place_behind : Fn P w K mg base 5 "place_behind" ["file", "at", "step"] (spPB K)) (g_behind_item : Fn P w K mg base 3 "behind_item" ["file", "at"] (spBI K))
    (c : XCls K C) (mk_NoPlace : XMk K C fi) (f_NoPlace : FnOk P w K mg base CX0 1 fi fdi ["self", "step"] (spInit C)) (x_NoPlace : mg "NoPlace" = some (.ref C)) (bi_NoPlace : Binds K fdi ["self", "step"] []) :
    FnOk P w K mg base (CX1 P w) 6 f fd ["file", "path"] (spSA K C) := by
  refine F.okX sc_span_at (fun vs H Q E h => ?_) (fun cdv A outer s H vs Q E hr h => ?_)
  · obtain ⟨a, pa, st, fs, k, rfl, _⟩ := h
    rfl
  obtain ⟨a, pa, st, fs, k, rfl, hS, bok, hpa, hst, q1, q2⟩ := h
  refine ⟨_, (@pss_cons _ _ _ _ _ (@ps_setI _ 2 _ _ _ _ _ sc_span_at.nd rfl (by first | exact Or.inl rfl | exact Or.inr rfl) pe_int rfl (by first | exact .inl rfl | exact .inr rfl)) (@pss_cons _ _ _ _ _ (@ps_for _ _ _ _ _ _ _ _ PassesOwn.leaving rfl (pi_enum rfl m.enumerate (@pa_cons _ _ _ _ _ (pv 1) pa_nil rfl)) (@pg_tup _ _ _ _ _ _ rfl (@pgs_cons _ _ _ _ _ (@pg_nameI _ 3 _ _ sc_span_at.nd rfl (Or.inl rfl) (by first | exact .inl rfl | exact .inr rfl)) (@pgs_cons _ _ _ _ _ (@pg_nameI _ 4 _ _ sc_span_at.nd rfl (Or.inl rfl) (by first | exact .inl rfl | exact .inr rfl)) pgs_nil (by first | rfl | decide | (intro _; rfl) | exact .inl rfl | exact .inr rfl | assumption)) (by first | rfl | decide | (intro _; rfl) | exact .inl rfl | exact .inr rfl | assumption)) (by first | rfl | decide | (intro _; rfl) | exact .inl rfl | exact .inr rfl | assumption) (by first | rfl | decide | (intro _; rfl) | exact .inl rfl | exact .inr rfl | assumption)) (@pss_cons _ _ _ _ _ (@ps_setI _ 2 _ _ _ _ _ sc_span_at.nd rfl (by first | exact Or.inl rfl | exact Or.inr rfl) (@pe_callF _ _ _ _ _ _ _ _ _ _ g_place_behind (hr.mono (by omega)) rfl (@pa_cons _ _ _ _ _ (pv 0) (@pa_cons _ _ _ _ _ (pv 2) (@pa_cons _ _ _ _ _ (pv 4) pa_nil rfl) rfl) rfl) (by decide) rfl rfl) rfl (by first | exact .inl rfl | exact .inr rfl)) (@pss_one _ _ _ (@ps_if _ _ _ _ _ _ _ _ (@pt_cmpR _ _ _ _ _ _ _ _ op_isN (pv 2) pe_non (nomark _)) (@pss_one _ _ _ (@ps_raiseX _ _ _ _ _ xw_fn (@pe_mkX _ _ _ _ _ _ _ _ _ _ _ _ _ _ _ mk_NoPlace f_NoPlace (hr.mono (by omega)) rfl x_NoPlace bi_NoPlace pass0 (@pa_cons _ _ _ _ _ (pv 3) pa_nil rfl) (by decide) rfl rfl) rfl)) pss_nil))) (by first | rfl | decide | (intro _; rfl) | exact .inl rfl | exact .inr rfl | assumption)) (@pss_one _ _ _ (@ps_ret _ _ _ _ (@pe_tup _ _ _ _ _ (@pa_cons _ _ _ _ _ (pv 2) (@pa_cons _ _ _ _ _ (@pe_callF _ _ _ _ _ _ _ _ _ _ g_behind_item (hr.mono (by omega)) rfl (@pa_cons _ _ _ _ _ (pv 0) (@pa_cons _ _ _ _ _ (pv 2) pa_nil rfl) rfl) (by decide) rfl rfl) pa_nil rfl) rfl)))))), ?_⟩
  refine ⟨_, rfl, pa, _, rfl, hpa, for_enum (xs := [.ref st]) (fun i σ H3 => Same H H3 ∧ ∃ n o3 o4, σ = [some (.ref a), some (.ref pa), some (.int n), o3, o4] ∧ (i = 0 → n = 0) ∧ (i = 1 → ∃ j : Nat, k = j ∧ j < fs.length ∧ n = ((off fs j : Nat) : Int))) ⟨Same.refl _, 0, _, _, rfl, fun _ => rfl, fun z => absurd z (by decide)⟩ ?_ ?_ ?_⟩
  · rintro i σ H3 hi ⟨s3, _⟩
    exact s3.up _ _ hpa
  · rintro i x p σ H3 hx ⟨s3, n, o3, o4, rfl, n0, _⟩ hp
    have i0 : i = 0 := by
      have := (List.getElem?_eq_some_iff.mp hx).1
      simp at this; exact this
    subst i0
    have e0 := n0 rfl
    subst e0
    have ex : x = .ref st := by simpa using hx.symm
    subst ex
    have s4 := s3.trans (Same.lay (o := .tup [.int ((0 : Nat) : Int), .ref st]) hp)
    refine ⟨p, _, rfl, SqT.of upd_same, rfl, _, _, rfl, _, _, rfl, rfl, ?_⟩
    refine ⟨_, rfl, _, rfl, _, rfl, a, st, fs, k, rfl, s4.up _ _ hS, bok, s4.up _ _ hst, fun j hj hl H5 s5 => ?_, fun no H5 s5 => ?_⟩
    · refine ⟨_, rfl, rfl, _, rfl, iteN (decide_eq_false (by intro z; cases z)) ?_⟩
      exact ⟨s4.trans s5, _, _, _, rfl, fun z => absurd z (by decide), fun _ => ⟨j, hj, hl, rfl⟩⟩
    · refine ⟨_, rfl, rfl, _, rfl, iteY (decide_eq_true rfl) ?_⟩
      exact ⟨_, rfl, np_raise c ((q2 no).same (s4.trans s5))⟩
  · rintro σ H3 ⟨s3, n, o3, o4, rfl, _, n1⟩
    obtain ⟨j, hj, hl, rfl⟩ := n1 rfl
    obtain ⟨g, hg⟩ : ∃ g, fs[j]? = some g := ⟨_, List.getElem?_eq_getElem hl⟩
    have sk := bok.sk _ (List.mem_of_getElem? hg)
    refine ⟨_, rfl, _, rfl, _, rfl, a, _, off fs j, g, rfl, s3.up _ _ hS, at_off hg, sk, fun H5 s5 => ⟨(by show 2 ≤ sizeLine; decide), fun r hr5 => ?_⟩⟩
    exact q1 j g hj hg r _ ((s3.trans s5).trans (Same.lay hr5)) (SqT.of upd_same)
theorem ok_nth (F : Fun K "nth" "nth" s_nth f fd) (m : Bn mg) (g_span_at : FnX P w K mg base 6 "span_at" ["file", "path"] (spSA K C)) : FnOk P w K mg base (CX1 P w) 7 f fd ["bundle", "k"] (spNth K C) := by
  refine F.okX sc_nth (fun vs H Q E h => ?_) (fun cdv A outer s H vs Q E hr h => ?_)
  · obtain ⟨a, fs, k, rfl, _⟩ := h
    rfl
  obtain ⟨a, fs, k, rfl, hS, bok, q1, q2⟩ := h
  refine ⟨_, (@pss_cons _ _ _ _ _ (@ps_setI _ 2 _ _ _ _ _ sc_nth.nd rfl (by first | exact Or.inl rfl | exact Or.inr rfl) (@pe_callX _ _ _ _ _ _ _ _ _ _ _ g_span_at xw_fn (hr.mono (by omega)) rfl (@pa_cons _ _ _ _ _ (pv 0) (@pa_cons _ _ _ _ _ (@pe_tup _ _ _ _ _ (@pa_cons _ _ _ _ _ (@pe_tup _ _ _ _ _ (@pa_cons _ _ _ _ _ pe_str (@pa_cons _ _ _ _ _ (pv 1) pa_nil rfl) rfl)) pa_nil rfl)) pa_nil rfl) rfl) (by decide) rfl rfl) rfl (by first | exact .inl rfl | exact .inr rfl)) (@pss_one _ _ _ (@ps_ret _ _ _ _ (@pe_callTy _ _ _ _ _ _ _ _ _ call_tuple_of rfl m.tuple b_tuple (@pa_cons _ _ _ _ _ (@pe_slice _ _ _ _ _ _ _ _ _ _ sl_tupG (pv 0) (@po_some _ _ _ (@pe_ix _ _ _ _ _ _ _ ix_tup (pv 2) pe_int (fun _ _ =>  rfl))) (@po_some _ _ _ (@pe_ix _ _ _ _ _ _ _ ix_tup (pv 2) pe_int (fun _ _ =>  rfl)))) pa_nil rfl) (by first | rfl | decide | (intro _; rfl) | exact .inl rfl | exact .inr rfl | assumption) (by first | rfl | decide | (intro _; rfl) | exact .inl rfl | exact .inr rfl | assumption) (by first | rfl | decide | (intro _; rfl) | exact .inl rfl | exact .inr rfl | assumption) (by first | rfl | decide | (intro _; rfl) | exact .inl rfl | exact .inr rfl | assumption))))), ?_⟩
  refine ⟨_, rfl, _, rfl, (by show 2 ≤ sizeLine; decide), fun t1 h1 => ⟨(by show 1 ≤ sizeLine; decide), fun t2 h2 => ?_⟩⟩
  have n12 : t1 ≠ t2 := ne_of_none upd_same h2
  have s2 := (Same.lay (o := .tup [.str "at", .int k]) h1).trans (Same.lay (o := .tup [.ref t1]) h2)
  refine ⟨a, t2, t1, fs, k, rfl, s2.up _ _ hS, bok, SqT.of upd_same, SqT.of (by rw [upd_ne n12]; exact upd_same), fun j g hj hg r H3 s3 hr3 => ?_, fun no d H' s' hd e C' ec _ => ?_⟩
  · have sk := bok.sk _ (List.mem_of_getElem? hg)
    refine ⟨_, rfl, _, rfl, r, _, _, _, rfl, rfl, hr3, rfl, _, rfl, _, rfl, r, _, _, _, rfl, rfl, hr3, rfl, _, rfl, a, _, rfl, (s2.trans s3).up _ _ hS, fun c H4 s4 hc => ?_⟩
    rw [cut_at (at_off hg) sk.ne] at hc
    exact ⟨c, _, rfl, .inr ⟨hc, q1 j g hj hg c H4 ((s2.trans s3).trans s4) hc⟩⟩
  · cases ec
    exact q2 no d H' (s2.trans s') hd
end
end K10
namespace K10
open PySem PySem.Spec PyProof.Rows L2 K01 K03
abbrev s_bundled : Stmt := top 28
abbrev N_bundled : List Str := ["files", "room", "file"]
theorem sc_bundled : FnScope N_bundled ["files"] (defScope s_bundled) := ⟨rfl, rfl, rfl, by decide +kernel, rfl, by decide +kernel, by decide +kernel⟩
abbrev s_cut : Stmt := top 30
abbrev N_cut : List Str := ["bundle", "first", "end", "bounds"]
theorem sc_cut : FnScope N_cut ["bundle", "first", "end"] (defScope s_cut) := ⟨rfl, rfl, rfl, by decide +kernel, rfl, by decide +kernel, by decide +kernel⟩
abbrev s_bundle_of : Stmt := top 31
abbrev N_bundle_of : List Str := ["room"]
theorem sc_bundle_of : FnScope N_bundle_of ["room"] (defScope s_bundle_of) := ⟨rfl, rfl, rfl, by decide +kernel, rfl, by decide +kernel, by decide +kernel⟩
def bD (l : List Int) : D := .tup (l.map D.int)
def spBO (K : PySem.W.Frag) : Sp := fun vs H Q _ => ∃ (a : Addr) (l : List Int), vs = [.ref a] ∧ (SqL K H a (bv l) ∨ SqT K H a (bv l)) ∧ l.length ≤ 1000000 ∧ ∀ r H', Same H H' → SqT K H' r (bv (2 :: (Lg (l.length : Int) ++ l))) → Q (.ref r) H'
def spBd (K : PySem.W.Frag) : Sp := fun vs H Q _ => ∃ (a : Addr) (us : List V) (fs : List (List Int)), vs = [.ref a] ∧ SqL K H a us ∧ AreD K H (fs.map bD) us ∧ fs.flatten.length ≤ 1000000 ∧ ∀ r H', Same H H' → SqT K H' r (bv (Bnd fs)) → Q (.ref r) H'
def spCut (K : PySem.W.Frag) (C : Addr) : Sp := fun vs H Q E => ∃ (a : Addr) (fs : List (List Int)) (i j : Int), vs = [.ref a, .int i, .int j] ∧ SqT K H a (bv (Bnd fs)) ∧ BOk fs ∧
  (∀ i' j' : Nat, i = i' → j = j' → i' ≤ j' → j' ≤ fs.length → ∀ r H', Same H H' → SqT K H' r (bv (Bnd ((fs.drop i').take (j' - i')))) → Q (.ref r) H') ∧ (¬ (0 ≤ i ∧ i ≤ j ∧ j ≤ (fs.length : Int)) → NP C E H)
theorem ln_le {n : Nat} (h : n ≤ 2000000) : n ≤ sizeLine := by have := sizeLine_eq; omega
theorem flat_cut (fs : List (List Int)) {i j : Nat} (h : i ≤ j) : ((fs.drop i).take (j - i)).flatten = (fs.flatten.drop (fs.take i).flatten.length).take ((fs.take j).flatten.length - (fs.take i).flatten.length) := by
  have e1 : fs.flatten = (fs.take i).flatten ++ (fs.drop i).flatten := by rw [← List.flatten_append, List.take_append_drop]
  have e2 : fs.take j = fs.take i ++ (fs.drop i).take (j - i) := by
    have := List.take_add (l := fs) (i := i) (j := j - i)
    rw [show i + (j - i) = j by omega] at this
    exact this
  have e3 : (fs.drop i).flatten = ((fs.drop i).take (j - i)).flatten ++ ((fs.drop i).drop (j - i)).flatten := by rw [← List.flatten_append, List.take_append_drop]
  rw [e1, List.drop_left, e2, List.flatten_append, List.length_append, show ∀ a b : Nat, a + b - a = b from fun a b => by omega, e3, List.take_left]
theorem ints_are {K : PySem.W.Frag} {H : Hp} {l : List Int} {v : V} (h : IsD K H (bD l) v) : ∃ t, v = .ref t ∧ SqT K H t (bv l) := by
  obtain ⟨t, vs, rfl, q, ar⟩ := h
  have e : ∀ {l : List Int} {vs : List V}, AreD K H (l.map D.int) vs → vs = bv l := by
    intro l
    induction l with
    | nil => intro vs h; exact h
    | cons x l ih =>
      intro vs h
      obtain ⟨v, r, rfl, h1, h2⟩ := (show ∃ v r, vs = v :: r ∧ IsD K H (.int x) v ∧ AreD K H (l.map D.int) r from h)
      obtain rfl : v = .int x := h1
      rw [ih h2]
      rfl
  rw [e ar] at q
  exact ⟨t, rfl, q⟩
section
variable {P : Program} {w : World} {K : PySem.W.Frag} {mg : Str → Option Value} {base : Heap} {f : Addr} {fd : FuncData} {aS : Addr}
theorem ok_bundle_of (F : Fun K "bundle_of" "bundle_of" s_bundle_of f fd) (m : Bn mg) (so : SortsOk K aS) (x_SORTS : mg "SORTS" = some (.ref aS)) (g_long_of : Fn P w K mg base 1 "long_of" ["n"] spLong) : FnOk P w K mg base CX0 2 f fd ["room"] (spBO K) := by
  refine F.ok sc_bundle_of (fun vs H Q E h => ?_) (fun cdv A outer s H vs Q E hr h => ?_)
  · obtain ⟨a, l, rfl, _⟩ := h
    rfl
  obtain ⟨a, l, rfl, hS, hl, q⟩ := h
  have ll := Lg_len (l.length : Int)
  have e0 : ((bv l).length : Int) = (l.length : Int) := by rw [bv_len]
  refine ⟨_, (@pss_one _ _ _ (@ps_ret _ _ _ _ (@pe_op _ _ _ _ _ _ _ _ op_catG (@pe_op _ _ _ _ _ _ _ _ op_catG (@pe_tup _ _ _ _ _ (@pa_cons _ _ _ _ _ (@pe_bm _ _ _ _ _ _ _ _ _ _ _ _ PySem.F.plainAttrs_tuple PySem.F.slot_tuple_index PySem.F.type_tuple_index mt_indexT (@pe_globR _ _ _ _ rfl x_SORTS (by decide)) (@pa_cons _ _ _ _ _ pe_str pa_nil rfl) (by first | rfl | decide | (intro _; rfl) | exact .inl rfl | exact .inr rfl | assumption) (by first | rfl | decide | (intro _; rfl) | exact .inl rfl | exact .inr rfl | assumption) (by first | rfl | decide | (intro _; rfl) | exact .inl rfl | exact .inr rfl | assumption) (by first | rfl | decide | (intro _; rfl) | exact .inl rfl | exact .inr rfl | assumption) (by first | rfl | decide | (intro _; rfl) | exact .inl rfl | exact .inr rfl | assumption)) pa_nil rfl)) (@pe_callF _ _ _ _ _ _ _ _ _ _ g_long_of (hr.mono (by omega)) rfl (@pa_cons _ _ _ _ _ (@pe_callB _ _ _ _ _ _ _ _ _ call_len_seq rfl m.len b_len (@pa_cons _ _ _ _ _ (pv 0) pa_nil rfl) (by decide) (by decide) rfl rfl) pa_nil rfl) (by decide) rfl rfl)) (@pe_callTy _ _ _ _ _ _ _ _ _ call_tuple_of rfl m.tuple b_tuple (@pa_cons _ _ _ _ _ (pv 0) pa_nil rfl) (by first | rfl | decide | (intro _; rfl) | exact .inl rfl | exact .inr rfl | assumption) (by first | rfl | decide | (intro _; rfl) | exact .inl rfl | exact .inr rfl | assumption) (by first | rfl | decide | (intro _; rfl) | exact .inl rfl | exact .inr rfl | assumption) (by first | rfl | decide | (intro _; rfl) | exact .inl rfl | exact .inr rfl | assumption))))), ?_⟩
  refine ⟨so.ty _, aS, _, _, 2, rfl, rfl, so.sq _, by decide +kernel, by decide +kernel, (by show 1 ≤ sizeLine; decide), fun t1 h1 => ?_⟩
  have s1 := Same.lay (o := .tup [.int ((2 : Nat) : Int)]) h1
  have hS1 : SqL K (upd H t1 (.tup [.int ((2 : Nat) : Int)])) a (bv l) ∨ SqT K (upd H t1 (.tup [.int ((2 : Nat) : Int)])) a (bv l) := hS.imp (fun h => s1.seq h) (fun h => s1.up _ _ h)
  refine ⟨_, rfl, a, _, rfl, hS1, _, rfl, by omega, by rw [e0]; exact lt20 (by omega), fun r1 H2 s2 h2 => ?_⟩
  rw [e0] at h2
  refine ⟨t1, r1, _, _, rfl, rfl, SqT.of (s2 _ _ upd_same), SqT.of h2, ln_le (by rw [List.length_map]; show 1 + (Lg (l.length : Int)).length ≤ _; omega), fun p H3 s3 h3 => ?_⟩
  have s03 := (s1.trans s2).trans s3
  have fin : ∀ r H', Same H H' → SqT K H' r (([V.int ((2 : Nat) : Int)] ++ (Lf 19 (l.length : Int)).map V.int) ++ bv l) → Q (.ref r) H' := fun r H' s h => by
    refine q r H' s ?_
    have : ([V.int ((2 : Nat) : Int)] ++ (Lf 19 (l.length : Int)).map V.int) ++ bv l = bv (2 :: (Lg (l.length : Int) ++ l)) := by
      unfold bv Lg
      rw [List.map_cons, List.map_append]
      rfl
    rw [← this]
    exact h
  have hz : ([V.int ((2 : Nat) : Int)] ++ (Lf 19 (l.length : Int)).map V.int).length + (bv l).length ≤ sizeLine := by
    refine ln_le ?_
    rw [bv_len, List.length_append, List.length_map]
    show 1 + (Lg (l.length : Int)).length + l.length ≤ _
    omega
  rcases hS with hS | hS
  · refine ⟨_, rfl, a, _, rfl, .inl ⟨s03.seq hS, fun t4 h4 => ?_⟩⟩
    have s4 := Same.lay (o := .tup (bv l)) h4
    exact ⟨p, t4, _, _, rfl, rfl, s4.up _ _ h3, SqT.of upd_same, hz, fun r H5 s5 h5 => fin r H5 ((s03.trans s4).trans s5) h5⟩
  · refine ⟨_, rfl, a, _, rfl, .inr ⟨s03.up _ _ hS, ?_⟩⟩
    exact ⟨p, a, _, _, rfl, rfl, h3, s03.up _ _ hS, hz, fun r H5 s5 h5 => fin r H5 (s03.trans s5) h5⟩
theorem ok_bundled (F : Fun K "bundled" "bundled" s_bundled f fd) (g_bundle_of : Fn P w K mg base 2 "bundle_of" ["room"] (spBO K)) : FnOk P w K mg base CX0 3 f fd ["files"] (spBd K) := by
  refine F.ok sc_bundled (fun vs H Q E h => ?_) (fun cdv A outer s H vs Q E hr h => ?_)
  · obtain ⟨a, us, fs, rfl, _⟩ := h
    rfl
  obtain ⟨a, us, fs, rfl, hS, au, ln, q⟩ := h
  refine ⟨_, (@pss_cons _ _ _ _ _ (@ps_setI _ 1 _ _ _ _ _ sc_bundled.nd rfl (by first | exact Or.inl rfl | exact Or.inr rfl) (@pe_lst _ _ _ _ pa_nil) rfl (by first | exact .inl rfl | exact .inr rfl)) (@pss_cons _ _ _ _ _ (@ps_for _ _ _ _ _ _ _ _ PassesOwn.never rfl (@pi_list _ _ _ _ (pv 0)) (@pg_nameI _ 2 _ _ sc_bundled.nd rfl (Or.inl rfl) (by first | exact .inl rfl | exact .inr rfl)) (@pss_one _ _ _ (@ps_expr _ _ _ _ (@pe_bm _ _ _ _ _ _ _ _ _ _ _ _ PySem.F.plainAttrs_list PySem.F.slot_list_extend PySem.F.type_list_extend mt_extT (pv 1) (@pa_cons _ _ _ _ _ (pv 2) pa_nil rfl) (by first | rfl | decide | (intro _; rfl) | exact .inl rfl | exact .inr rfl | assumption) (by first | rfl | decide | (intro _; rfl) | exact .inl rfl | exact .inr rfl | assumption) (by first | rfl | decide | (intro _; rfl) | exact .inl rfl | exact .inr rfl | assumption) (by first | rfl | decide | (intro _; rfl) | exact .inl rfl | exact .inr rfl | assumption) (by first | rfl | decide | (intro _; rfl) | exact .inl rfl | exact .inr rfl | assumption)) rfl)) (by first | rfl | decide | (intro _; rfl) | exact .inl rfl | exact .inr rfl | assumption)) (@pss_one _ _ _ (@ps_ret _ _ _ _ (@pe_callF _ _ _ _ _ _ _ _ _ _ g_bundle_of (hr.mono (by omega)) rfl (@pa_cons _ _ _ _ _ (pv 1) pa_nil rfl) (by decide) rfl rfl))))), ?_⟩
  refine ⟨(by show 0 ≤ sizeLine; decide), fun p hp => ?_⟩
  have s0 := Same.lay (o := .lst []) hp
  refine ⟨_, rfl, a, rfl, ⟨_, s0.seq hS⟩, for_list (xs := us) (fun i σ H3 => Same H H3 ∧ H3 p = some (.lst (bv (fs.take i).flatten)) ∧ ∃ o, σ = [some (.ref a), some (.ref p), o]) ⟨s0, upd_same, _, rfl⟩ ?_ ?_ ?_⟩
  · rintro i σ H3 hi ⟨s3, _⟩
    exact s3.seq hS
  · rintro i x σ H3 hx ⟨s3, h3, o, rfl⟩
    have hi : i < fs.length := by
      have := (List.getElem?_eq_some_iff.mp hx).1
      rw [← au.length, List.length_map] at this; exact this
    have hf : fs[i]? = some fs[i] := List.getElem?_eq_getElem hi
    obtain ⟨x', hx', dx⟩ := au.get (show (fs.map bD)[i]? = some (bD fs[i]) by rw [List.getElem?_map, hf]; rfl)
    rw [hx] at hx'
    cases hx'
    obtain ⟨t, rfl, ht⟩ := ints_are dx
    have fl := congrArg List.length (flat_at hf)
    rw [List.length_append, List.length_append] at fl
    refine ⟨_, rfl, .inl ⟨rfl, _, SqL.of h3⟩, _, rfl, p, t, _, _, rfl, rfl, h3, s3.up _ _ ht, ln_le (by rw [bv_len, bv_len]; omega), ?_⟩
    refine ⟨s3.put hp, ?_, _, rfl⟩
    rw [upd_same, take_flat hf, bv_app]
  · rintro σ H3 ⟨s3, h3, o, rfl⟩
    have e : (fs.take us.length).flatten = fs.flatten := by rw [← au.length, List.length_map, List.take_length]
    rw [e] at h3
    exact ⟨_, rfl, p, fs.flatten, rfl, .inl (SqL.of h3), ln, fun r H4 s4 h4 => q r H4 (s3.trans s4) h4⟩
end
end K10
namespace K10
open PySem PySem.Spec PyProof.Rows L2 K01 K03
theorem off_le (fs : List (List Int)) {i j : Nat} (h : i ≤ j) : off fs i ≤ off fs j := by
  unfold off
  have e2 : fs.take j = fs.take i ++ (fs.drop i).take (j - i) := by
    have := List.take_add (l := fs) (i := i) (j := j - i)
    rw [show i + (j - i) = j by omega] at this
    exact this
  rw [e2, List.flatten_append, List.length_append]
  omega
theorem cut_bnd {fs : List (List Int)} {i j : Nat} (h : i ≤ j) (hj : j ≤ fs.length) : cutV (bv (Bnd fs)) (some ((off fs i : Nat) : Int)) (some ((off fs j : Nat) : Int)) = bv ((fs.drop i).take (j - i)).flatten := by
  have oj : off fs j ≤ (Bnd fs).length := by
    have := off_le fs hj
    rw [bnd_len]
    have e : off fs fs.length = 1 + (Lg ((fs.flatten).length : Int)).length + fs.flatten.length := by unfold off; rw [List.take_length]
    omega
  rw [cut_nat _ (off_le fs h) (by rw [bv_len]; exact oj), flat_cut fs h]
  have e : (Bnd fs).drop (off fs i) = fs.flatten.drop (fs.take i).flatten.length := by
    unfold Bnd off
    rw [show 1 + (Lg ((fs.flatten).length : Int)).length + (fs.take i).flatten.length = (Lg ((fs.flatten).length : Int)).length + (fs.take i).flatten.length + 1 by omega, List.drop_succ_cons, ← List.drop_drop, List.drop_left]
  unfold bv
  rw [← List.map_drop, e, ← List.map_take]
  congr 2
  unfold off
  omega
def bnds (fs : List (List Int)) : List Int := (List.range fs.length).map (fun i : Nat => (off fs i : Int))
theorem bnds_get {fs : List (List Int)} {i : Nat} (h : i ≤ fs.length) : (bv (bnds fs) ++ [V.int ((bv (Bnd fs)).length : Int)])[i]? = some (.int ((off fs i : Nat) : Int)) := by
  by_cases c : i < fs.length
  · rw [List.getElem?_append_left (by unfold bv bnds; rw [List.length_map, List.length_map, List.length_range]; exact c)]
    unfold bv bnds
    rw [List.getElem?_map, List.getElem?_map, List.getElem?_range c]
    rfl
  · have e : i = fs.length := by omega
    subst e
    have l : (bv (bnds fs)).length = fs.length := by unfold bv bnds; rw [List.length_map, List.length_map, List.length_range]
    rw [List.getElem?_append_right (by omega), l, Nat.sub_self]
    show some (V.int ((bv (Bnd fs)).length : Int)) = _
    rw [bv_len, bnd_len]
    unfold off
    rw [List.take_length]
section
variable {P : Program} {w : World} {K : PySem.W.Frag} {mg : Str → Option Value} {base : Heap} {f : Addr} {fd : FuncData} {aS C fi : Addr} {fdi : FuncData}
theorem ok_cut (F : Fun K "cut" "cut" s_cut f fd) (m : Bn mg) (g_room_parts : Fn P w K mg base 4 "room_parts" ["file", "at"] (spRP K)) (g_bundle_of : Fn P w K mg base 2 "bundle_of" ["room"] (spBO K))
    (c : XCls K C) (mk_NoPlace : XMk K C fi) (f_NoPlace : FnOk P w K mg base CX0 1 fi fdi ["self", "step"] (spInit C)) (x_NoPlace : mg "NoPlace" = some (.ref C)) (bi_NoPlace : Binds K fdi ["self", "step"] []) : FnOk P w K mg base (CX1 P w) 5 f fd ["bundle", "first", "end"] (spCut K C) := by
  refine F.okX sc_cut (fun vs H Q E h => ?_) (fun cdv A outer s H vs Q E hr h => ?_)
  · obtain ⟨a, fs, i, j, rfl, _⟩ := h
    rfl
  obtain ⟨a, fs, i, j, rfl, hS, bok, q1, q2⟩ := h
  have ln := bok.ln
  refine ⟨_, (@pss_cons _ _ _ _ _ (@ps_setI _ 3 _ _ _ _ _ sc_cut.nd rfl (by first | exact Or.inl rfl | exact Or.inr rfl) (@pe_op _ _ _ _ _ _ _ _ op_cat (@pe_compI _ N_cut (defScope s_cut) ["label", "place"] [none, none] _ _ _ _ _ _ _ _ _ _ rfl (@pi_list _ _ _ _ (@pe_callF _ _ _ _ _ _ _ _ _ _ g_room_parts (hr.mono (by omega)) rfl (@pa_cons _ _ _ _ _ (pv 0) (@pa_cons _ _ _ _ _ pe_int pa_nil rfl) rfl) (by decide) rfl rfl)) ⟨rfl, rfl, by decide +kernel, by decide +kernel⟩ (fun _ _ _ =>  (@pg_tup _ _ _ _ _ _ rfl (@pgs_cons _ _ _ _ _ (@pg_nameI _ 0 _ _ (show List.Nodup (["label", "place"] : List Str) from by decide +kernel) rfl (Or.inl rfl) (by first | exact .inl rfl | exact .inr rfl)) (@pgs_cons _ _ _ _ _ (@pg_nameI _ 1 _ _ (show List.Nodup (["label", "place"] : List Str) from by decide +kernel) rfl (Or.inl rfl) (by first | exact .inl rfl | exact .inr rfl)) pgs_nil (by first | rfl | decide | (intro _; rfl) | exact .inl rfl | exact .inr rfl | assumption)) (by first | rfl | decide | (intro _; rfl) | exact .inl rfl | exact .inr rfl | assumption)) (by first | rfl | decide | (intro _; rfl) | exact .inl rfl | exact .inr rfl | assumption) (by first | rfl | decide | (intro _; rfl) | exact .inl rfl | exact .inr rfl | assumption))) (fun _ _ _ =>  pts_nil) (fun _ _ _ =>  (pv 1)) (by first | rfl | decide | (intro _; rfl) | exact .inl rfl | exact .inr rfl | assumption)) (@pe_lst _ _ _ _ (@pa_cons _ _ _ _ _ (@pe_callB _ _ _ _ _ _ _ _ _ call_len_seq rfl m.len b_len (@pa_cons _ _ _ _ _ (pv 0) pa_nil rfl) (by decide) (by decide) rfl rfl) pa_nil rfl))) rfl (by first | exact .inl rfl | exact .inr rfl)) (@pss_cons _ _ _ _ _ (@ps_if _ _ _ _ _ _ _ _ (@PW.pt _ _ _ (@pw_or _ _ _ _ _ _ _ (@pt_cmpR _ _ _ _ _ _ _ _ op_lt (pv 1) pe_int (nomark _)) (@pw_or _ _ _ _ _ _ _ (@pt_cmpR _ _ _ _ _ _ _ _ op_ge (pv 2) (@pe_callB _ _ _ _ _ _ _ _ _ call_len_seq rfl m.len b_len (@pa_cons _ _ _ _ _ (pv 3) pa_nil rfl) (by decide) (by decide) rfl rfl) (nomark _)) (@pw_or1 _ _ _ _ (@pt_cmpR _ _ _ _ _ _ _ _ op_gt (pv 1) (pv 2) (nomark _)))))) (@pss_one _ _ _ (@ps_raiseX _ _ _ _ _ xw_fn (@pe_mkX _ _ _ _ _ _ _ _ _ _ _ _ _ _ _ mk_NoPlace f_NoPlace (hr.mono (by omega)) rfl x_NoPlace bi_NoPlace pass0 (@pa_cons _ _ _ _ _ pe_int pa_nil rfl) (by decide) rfl rfl) rfl)) pss_nil) (@pss_one _ _ _ (@ps_ret _ _ _ _ (@pe_callF _ _ _ _ _ _ _ _ _ _ g_bundle_of (hr.mono (by omega)) rfl (@pa_cons _ _ _ _ _ (@pe_slice _ _ _ _ _ _ _ _ _ _ sl_tupG (pv 0) (@po_some _ _ _ (@pe_ix _ _ _ _ _ _ _ ix_list (pv 3) (pv 1) (fun _ _ =>  rfl))) (@po_some _ _ _ (@pe_ix _ _ _ _ _ _ _ ix_list (pv 3) (pv 2) (fun _ _ =>  rfl)))) pa_nil rfl) (by decide) rfl rfl))))), ?_⟩
  refine ⟨_, rfl, a, fs, rfl, hS, bok, fun r us H2 s2 hr2 au => ⟨r, rfl, ⟨_, SqL.of hr2⟩, fun Dd fp sx hD => ?_⟩⟩
  have ul : us.length = fs.length := by rw [← au.length, prts_len]
  have fl : fs.length ≤ 1000000 := by
    have g : ∀ gs : List (List Int), (∀ f ∈ gs, 1 ≤ f.length) → gs.length ≤ gs.flatten.length := by
      intro gs
      induction gs with
      | nil => intro _; exact Nat.le_refl _
      | cons x xs ih =>
        intro h
        have h1 := h x List.mem_cons_self
        have h2 := ih fun f m => h f (List.mem_cons_of_mem _ m)
        rw [List.flatten_cons, List.length_append, List.length_cons]; omega
    have := g fs fun f m => (bok.sk f m).ne
    omega
  have hrD : r ≠ Dd := ne_of_none hr2 hD
  refine comp_list (K := K) (a := r) (xs := us) (fun k ys σ H5 => ys = bv ((bnds fs).take k) ∧ (∃ o1 o2, σ = [o1, o2]) ∧ H5 = upd H2 Dd (.lst ys)) ⟨rfl, ⟨_, _, rfl⟩, rfl⟩ ?_ ?_ ?_
  · rintro k ys σ H5 hk ⟨_, _, rfl⟩
    exact ⟨SqL.of (by rw [upd_ne hrD]; exact hr2), upd_same⟩
  · rintro k x ys σ H5 hx ⟨rfl, ⟨o1, o2, rfl⟩, rfl⟩
    have hk : k < fs.length := by have := (List.getElem?_eq_some_iff.mp hx).1; omega
    obtain ⟨x', hx', dx⟩ := au.get (prts_get hk)
    rw [hx] at hx'
    cases hx'
    obtain ⟨t, rfl, ht⟩ := isD2i dx
    have up2 : Up K H2 (upd H2 Dd (.lst (bv ((bnds fs).take k)))) := up_put hD
    refine ⟨t, _, rfl, up2 _ _ ht, rfl, _, _, rfl, _, _, rfl, rfl, ?_⟩
    refine alwaysT ⟨_, rfl, upd_same, ?_, ?_, ⟨_, _, rfl⟩, ?_⟩
    · have := sizeLine_eq
      rw [bv_len, List.length_take]; omega
    · rw [List.take_succ, show (bnds fs)[k]? = some ((off fs k : Nat) : Int) by unfold bnds; rw [List.getElem?_map, List.getElem?_range hk]; rfl, bv_app]
      rfl
    · rw [upd_upd]
  rintro ys σ H5 ⟨rfl, _, rfl⟩
  have e5 : (bnds fs).take us.length = bnds fs := by
    apply List.take_of_length_le
    unfold bnds
    rw [List.length_map, List.length_range]; omega
  rw [e5]
  have s5 := s2.trans (Same.lay (o := .lst (bv (bnds fs))) hD)
  refine ⟨_, rfl, a, _, rfl, .inr (s5.up _ _ hS), (by show 1 ≤ sizeLine; decide), fun l hl => ?_⟩
  have nl : Dd ≠ l := ne_of_none upd_same hl
  have s6 := s5.trans (Same.lay (o := .lst [V.int ((bv (Bnd fs)).length : Int)]) hl)
  have bl : (bv (bnds fs)).length = fs.length := by unfold bv bnds; rw [List.length_map, List.length_map, List.length_range]
  refine ⟨Dd, l, bv (bnds fs), [V.int ((bv (Bnd fs)).length : Int)], rfl, rfl, by rw [upd_ne nl]; exact upd_same, upd_same, ln_le (by rw [bl]; show fs.length + 1 ≤ _; omega), fun p hp => ?_⟩
  have s7 := s6.trans (Same.lay (o := .lst (bv (bnds fs) ++ [V.int ((bv (Bnd fs)).length : Int)])) hp)
  have bl2 : (bv (bnds fs) ++ [V.int ((bv (Bnd fs)).length : Int)]).length = fs.length + 1 := by rw [List.length_append, bl]; rfl
  by_cases ci : i < 0
  · exact ⟨_, rfl, _, _, rfl, rfl, _, rfl, iteY (decide_eq_true ci) (np_raise c ((q2 (by omega)).same s7))⟩
  refine ⟨_, rfl, _, _, rfl, rfl, _, rfl, iteN (decide_eq_false ci) ?_⟩
  by_cases cj : (fs.length : Int) < j
  · exact ⟨_, rfl, _, rfl, p, _, rfl, .inl (SqL.of upd_same), _, _, rfl, rfl, _, rfl, iteY (decide_eq_true (by rw [bl2]; omega)) (np_raise c ((q2 (by omega)).same s7))⟩
  refine ⟨_, rfl, _, rfl, p, _, rfl, .inl (SqL.of upd_same), _, _, rfl, rfl, _, rfl, iteN (decide_eq_false (by rw [bl2]; omega)) ?_⟩
  by_cases cc : j < i
  · exact ⟨_, rfl, _, rfl, _, _, rfl, rfl, _, rfl, iteY (decide_eq_true cc) (np_raise c ((q2 (by omega)).same s7))⟩
  refine ⟨_, rfl, _, rfl, _, _, rfl, rfl, _, rfl, iteN (decide_eq_false cc) ?_⟩
  obtain ⟨i', rfl⟩ : ∃ i' : Nat, i = i' := ⟨i.toNat, by omega⟩
  obtain ⟨j', rfl⟩ : ∃ j' : Nat, j = j' := ⟨j.toNat, by omega⟩
  have hij : i' ≤ j' := by omega
  have hj : j' ≤ fs.length := by omega
  refine ⟨_, rfl, _, rfl, _, rfl, p, _, _, _, rfl, rfl, SqL.of upd_same, atI_nat (bnds_get (Nat.le_trans hij hj)), _, rfl, _, rfl, _, rfl, p, _, _, _, rfl, rfl, SqL.of upd_same, atI_nat (bnds_get hj), _, rfl, a, _, rfl, s7.up _ _ hS, fun c H8 s8 hc => ?_⟩
  rw [cut_bnd hij hj] at hc
  refine ⟨c, _, rfl, .inr hc, ?_, fun r' H9 s9 h9 => q1 i' j' rfl rfl hij hj r' H9 ((s7.trans s8).trans s9) h9⟩
  have e := congrArg List.length (flat_cut fs hij)
  rw [List.length_take, List.length_drop] at e
  omega
end
end K10
namespace K10
open PySem PySem.Spec PyProof.Rows L2 K01 K03
abbrev s_law_word : Stmt := top 43
abbrev N_law_word : List Str := ["_law_bundle", "_law_some", "_law_found", "_law_told", "e"]
theorem sc_law_word : FnScope N_law_word ["_law_bundle", "_law_some"] (defScope s_law_word) := ⟨rfl, rfl, rfl, by decide +kernel, rfl, by decide +kernel, by decide +kernel⟩
abbrev s_law : Stmt := top 44
abbrev N_law : List Str := ["_law_script", "_law_k", "_law_feed_here", "_law_many", "_law_bundle", "_law_numbers", "_law_turn", "_law_number_here", "_law_other"]
theorem sc_law : FnScope N_law ["_law_script"] (defScope s_law) := ⟨rfl, rfl, rfl, by decide +kernel, rfl, by decide +kernel, by decide +kernel⟩
def okW (fs : List (List Int)) : List Int → Bool
  | [k] => decide (0 ≤ k ∧ k < (fs.length : Int))
  | [i, j] => decide (0 ≤ i ∧ i ≤ j ∧ j ≤ (fs.length : Int))
  | _ => false
def wd (b : Bool) : Str := if b then "told" else "refused"
def spWord (K : PySem.W.Frag) : Sp := fun vs H Q _ => ∃ (b l : Addr) (fs : List (List Int)) (ks : List Int), vs = [.ref b, .ref l] ∧ SqT K H b (bv (Bnd fs)) ∧ BOk fs ∧ SqL K H l (bv ks) ∧ (ks.length = 1 ∨ ks.length = 2) ∧ ∀ H', Same H H' → Q (.str (wd (okW fs ks))) H'
def wWord (H : Hp) (b l : Addr) (fs : List (List Int)) (ks : List Int) (C : Addr) : XWT := fun σ H' _ C' od => σ = [some (.ref b), some (.ref l), some (.str "other"), none, none] ∧ Same H H' ∧ C' = C ∧ okW fs ks = false ∧ ∃ d, od = some d ∧ H' d = some (DHO d [("step", .int 0)])
structure Exs (K : PySem.W.Frag) (M C : Addr) (ds : List Addr) : Prop where
  xm : XCls K M
  xc : XCls K C
  mro : PySem.W.mroIn K C (.ref M) = some true
  self : PySem.W.kitOne K (.ref C) (.ref C) = some true
  ve : PySem.W.kitOne K (.ref C) (.type "ValueError") = some true
  any : PySem.W.kitAny K (.ref C) (ds.map Value.ref) = some false
  no : NoAttr K C "step"
theorem b_ValueError : bootBuiltins "ValueError" = some (.type "ValueError") := by decide +kernel
theorem thInts {K : PySem.W.Frag} {H : Hp} : ∀ xs : List Int, AreTh K H (xs.map Th.int) (bv xs)
  | [] => rfl
  | x :: xs => ⟨.int x, bv xs, rfl, rfl, thInts xs⟩
theorem isT {K : PySem.W.Frag} {H : Hp} {r : Addr} {l : List Int} (h : SqT K H r (bv l)) : IsTh K H (.tup (l.map Th.int)) (.ref r) := ⟨r, _, rfl, h, thInts l⟩
section
variable {P : Program} {w : World} {K : PySem.W.Frag} {mg : Str → Option Value} {base : Heap} {f : Addr} {fd : FuncData} {M C c1 c2 c3 c4 c5 c6 c7 c8 c9 : Addr}
theorem ok_word (F : Fun K "_law_word" "_law_word" s_law_word f fd) (m : Bn mg) (mv : mg "ValueError" = none) (X : Exs K M C [c1, c2, c3, c4, c5, c6, c7, c8, c9]) (g_nth : FnX P w K mg base 7 "nth" ["bundle", "k"] (spNth K C)) (g_cut : FnX P w K mg base 5 "cut" ["bundle", "first", "end"] (spCut K C))
    (x_MakeError : mg "MakeError" = some (.ref M)) (x_NoPlace : mg "NoPlace" = some (.ref C)) (x_BadByte : mg "BadByte" = some (.ref c1)) (x_BadDeed : mg "BadDeed" = some (.ref c2)) (x_BadItem : mg "BadItem" = some (.ref c3)) (x_BadText : mg "BadText" = some (.ref c4))
    (x_NoFile : mg "NoFile" = some (.ref c5)) (x_NoMove : mg "NoMove" = some (.ref c6)) (x_NoRow : mg "NoRow" = some (.ref c7)) (x_NoTable : mg "NoTable" = some (.ref c8)) (x_NoValue : mg "NoValue" = some (.ref c9)) :
    FnOk P w K mg base CX0 8 f fd ["_law_bundle", "_law_some"] (spWord K) := by
  have xc_MakeError := X.xm
  refine F.ok sc_law_word (fun vs H Q E h => ?_) (fun cdv A outer s H vs Q E hr h => ?_)
  · obtain ⟨b, l, fs, ks, rfl, _⟩ := h
    rfl
  obtain ⟨b, l, fs, ks, rfl, hb, bok, hl, hk, q⟩ := h
  refine ⟨_, (@pss_cons _ _ _ _ _ (@ps_setI _ 2 _ _ _ _ _ sc_law_word.nd rfl (by first | exact Or.inl rfl | exact Or.inr rfl) pe_str rfl (by first | exact .inl rfl | exact .inr rfl)) (@pss_cons _ _ _ _ _ (@ps_tryX _ (wWord H b l fs ks C) 4 _ _ _ _ _ _ _ _ _ _ _ (fun pn =>  (@pss_cons _ _ _ _ _ (@ps_if _ _ _ _ _ _ _ _ (@pt_cmpR _ _ _ _ _ _ _ _ op_eq (@pe_callB _ _ _ _ _ _ _ _ _ call_len_seq rfl m.len b_len (@pa_cons _ _ _ _ _ (pv 1) pa_nil rfl) (by decide) (by decide) rfl rfl) pe_int (nomark _)) (@pss_one _ _ _ (@ps_setI _ 3 _ _ _ _ _ sc_law_word.nd rfl (by first | exact Or.inl rfl | exact Or.inr rfl) (@pe_callX _ _ _ _ _ _ _ _ _ _ _ g_nth xw_tx (hr.mono (by omega)) rfl (@pa_cons _ _ _ _ _ (pv 0) (@pa_cons _ _ _ _ _ (@pe_ix _ _ _ _ _ _ _ ix_list (pv 1) pe_int (fun _ _ =>  rfl)) pa_nil rfl) rfl) (by decide) rfl rfl) rfl (by first | exact .inl rfl | exact .inr rfl))) (@pss_one _ _ _ (@ps_setI _ 3 _ _ _ _ _ sc_law_word.nd rfl (by first | exact Or.inl rfl | exact Or.inr rfl) (@pe_callX _ _ _ _ _ _ _ _ _ _ _ g_cut xw_tx (hr.mono (by omega)) rfl (@pa_cons _ _ _ _ _ (pv 0) (@pa_cons _ _ _ _ _ (@pe_ix _ _ _ _ _ _ _ ix_list (pv 1) pe_int (fun _ _ =>  rfl)) (@pa_cons _ _ _ _ _ (@pe_ix _ _ _ _ _ _ _ ix_list (pv 1) pe_int (fun _ _ =>  rfl)) pa_nil rfl) rfl) rfl) (by decide) rfl rfl) rfl (by first | exact .inl rfl | exact .inr rfl)))) (@pss_one _ _ _ (@ps_if _ _ _ _ _ _ _ _ (@pt_val _ _ _ (@pe_callB _ _ _ _ _ _ _ _ _ call_isiTh rfl m.isinstance b_isinstance (@pa_cons _ _ _ _ _ (pv 3) (@pa_cons _ _ _ _ _ (@pe_bltnT _ _ _ _ rfl m.tuple b_tuple (by decide) (by decide)) pa_nil rfl) rfl) (by decide) (by decide) rfl rfl) (by intro _; rfl)) (@pss_one _ _ _ (@ps_setI _ 2 _ _ _ _ _ sc_law_word.nd rfl (by first | exact Or.inl rfl | exact Or.inr rfl) pe_str rfl (by first | exact .inl rfl | exact .inr rfl))) pss_nil)))) (fun e =>  (@pss_cons _ _ _ _ _ (@ps_if _ _ _ _ _ _ _ _ (@PW.pt _ _ _ (@pw_and _ _ _ _ _ _ _ (@pt_val _ _ _ (@pe_callB _ _ _ _ _ _ _ _ _ call_isiX rfl m.isinstance b_isinstance (@pa_cons _ _ _ _ _ (pv 4) (@pa_cons _ _ _ _ _ (@pe_globR _ _ _ _ rfl x_NoPlace (by decide)) pa_nil rfl) rfl) (by decide) (by decide) rfl rfl) (by intro _; rfl)) (@pw_and _ _ _ _ _ _ _ (@pt_val _ _ _ (@pe_callB _ _ _ _ _ _ _ _ _ call_isiXB rfl m.isinstance b_isinstance (@pa_cons _ _ _ _ _ (pv 4) (@pa_cons _ _ _ _ _ (@pe_bltnT _ _ _ _ rfl mv b_ValueError (by decide) (by decide)) pa_nil rfl) rfl) (by decide) (by decide) rfl rfl) (by intro _; rfl)) (@pw_and _ _ _ _ _ _ _ (@pt_cmpR _ _ _ _ _ _ _ _ op_eq (@pe_fldX _ _ _ _ _ (pv 4) rfl) pe_int (nomark _)) (@pw_and1 _ _ _ _ (@pt_not _ _ _ _ (@pt_val _ _ _ (@pe_callB _ _ _ _ _ _ _ _ _ call_isiTh rfl m.isinstance b_isinstance (@pa_cons _ _ _ _ _ (@pe_fldX _ _ _ _ _ (pv 4) rfl) (@pa_cons _ _ _ _ _ (@pe_bltnT _ _ _ _ rfl m.bool b_bool (by decide) (by decide)) pa_nil rfl) rfl) (by decide) (by decide) rfl rfl) (by intro _; rfl)))))))) (@pss_one _ _ _ (@ps_setI _ 2 _ _ _ _ _ sc_law_word.nd rfl (by first | exact Or.inl rfl | exact Or.inr rfl) pe_str rfl (by first | exact .inl rfl | exact .inr rfl))) pss_nil) (@pss_one _ _ _ (@ps_if _ _ _ _ _ _ _ _ (@pt_val _ _ _ (@pe_callB _ _ _ _ _ _ _ _ _ call_isiXT rfl m.isinstance b_isinstance (@pa_cons _ _ _ _ _ (pv 4) (@pa_cons _ _ _ _ _ (@pe_tup _ _ _ _ _ (@pa_cons _ _ _ _ _ (@pe_globR _ _ _ _ rfl x_BadByte (by decide)) (@pa_cons _ _ _ _ _ (@pe_globR _ _ _ _ rfl x_BadDeed (by decide)) (@pa_cons _ _ _ _ _ (@pe_globR _ _ _ _ rfl x_BadItem (by decide)) (@pa_cons _ _ _ _ _ (@pe_globR _ _ _ _ rfl x_BadText (by decide)) (@pa_cons _ _ _ _ _ (@pe_globR _ _ _ _ rfl x_NoFile (by decide)) (@pa_cons _ _ _ _ _ (@pe_globR _ _ _ _ rfl x_NoMove (by decide)) (@pa_cons _ _ _ _ _ (@pe_globR _ _ _ _ rfl x_NoRow (by decide)) (@pa_cons _ _ _ _ _ (@pe_globR _ _ _ _ rfl x_NoTable (by decide)) (@pa_cons _ _ _ _ _ (@pe_globR _ _ _ _ rfl x_NoValue (by decide)) pa_nil rfl) rfl) rfl) rfl) rfl) rfl) rfl) rfl) rfl)) pa_nil rfl) rfl) (by decide) (by decide) rfl rfl) (by intro _; rfl)) (@pss_one _ _ _ (@ps_setI _ 2 _ _ _ _ _ sc_law_word.nd rfl (by first | exact Or.inl rfl | exact Or.inr rfl) pe_str rfl (by first | exact .inl rfl | exact .inr rfl))) pss_nil)))) rfl rfl rfl x_MakeError xc_MakeError xc_MakeError.here sc_law_word.nd rfl rfl (by decide)) (@pss_one _ _ _ (@ps_ret _ _ _ _ (pv 2))))), ?_⟩
  have told : ∀ {r : Addr} {g : List Int} {H1 : Hp}, Same H H1 → SqT K H1 r (bv g) → okW fs ks = true → Q (.str "told") H1 := fun s1 _ o => by
    have := q _ s1
    rw [o] at this
    exact this
  have np : ∀ {d : Addr} {H1 : Hp} {e C' : Addr}, okW fs ks = false → Same H H1 → H1 d = some (DHO d [("step", .int 0)]) → (Value.ref C : Value) = .ref C' → wWord H b l fs ks C [some (.ref b), some (.ref l), some (.str "other"), none, none] H1 e C' (some d) := fun o s1 hd ec => by
    cases ec
    exact ⟨rfl, s1, rfl, o, _, rfl, hd⟩
  refine ⟨fun pn => ⟨_, rfl, l, _, rfl, .inl hl, rfl, _, rfl, ?_⟩, ?_⟩
  · rcases hk with hk | hk
    · obtain ⟨k, rfl⟩ : ∃ k, ks = [k] := by
        match ks, hk with
        | [k], _ => exact ⟨k, rfl⟩
      refine iteY (decide_eq_true rfl) ⟨_, rfl, _, rfl, l, _, _, _, rfl, rfl, hl, rfl, b, fs, k, rfl, hb, bok, fun j g hj hg r H1 s1 h1 => ?_, fun no d H1 s1 hd e C' ec _ => ?_⟩
      · have hl' : j < fs.length := (List.getElem?_eq_some_iff.mp hg).1
        refine ⟨_, rfl, _, "tuple", _, rfl, isT h1, by decide, true, rfl, iteT ⟨_, rfl, ?_⟩⟩
        exact told s1 h1 (decide_eq_true ⟨by omega, by omega⟩)
      · exact np (decide_eq_false fun z => by have := no k.toNat (by omega); omega) s1 hd ec
    · obtain ⟨i, j, rfl⟩ : ∃ i j, ks = [i, j] := by
        match ks, hk with
        | [i, j], _ => exact ⟨i, j, rfl⟩
      refine iteN (decide_eq_false (by intro z; injection z with z; exact absurd z (by show ¬ ((2 : Nat) : Int) = 1; decide))) ⟨_, rfl, _, rfl, l, _, _, _, rfl, rfl, hl, rfl, _, rfl, l, _, _, _, rfl, rfl, hl, rfl, b, fs, i, j, rfl, hb, bok, fun i' j' hi hj hij hjl r H1 s1 h1 => ?_, fun no d H1 s1 hd e C' ec _ => ?_⟩
      · refine ⟨_, rfl, _, "tuple", _, rfl, isT h1, by decide, true, rfl, iteT ⟨_, rfl, ?_⟩⟩
        exact told s1 h1 (decide_eq_true ⟨by omega, by omega, by omega⟩)
      · exact np (decide_eq_false no) s1 hd ec
  · rintro σ' H1 e C' od ee ⟨rfl, s1, rfl, o, d, rfl, hd⟩
    have ix : IsX H1 e C' := ⟨some d, false, ee, fun d' e' => by cases e'; exact ⟨_, hd⟩⟩
    refine ⟨X.mro, ?_⟩
    refine ⟨_, rfl, e, C', C', true, rfl, ix, X.xc, X.self, true, rfl, iteT ?_⟩
    refine ⟨_, rfl, e, C', "ValueError", true, rfl, ix, X.xc, X.ve, true, rfl, iteT ?_⟩
    refine ⟨_, rfl, e, C', d, false, _, .int 0, rfl, ee, hd, X.xc, X.no, rfl, rfl, _, rfl, iteY (decide_eq_true rfl) ?_⟩
    refine ⟨_, rfl, e, C', d, false, _, .int 0, rfl, ee, hd, X.xc, X.no, rfl, .int 0, "bool", .int 0, rfl, rfl, by decide, false, rfl, iteT ?_⟩
    refine ⟨_, rfl, (by show 9 ≤ sizeLine; decide), fun t ht => ?_⟩
    have st := Same.lay (o := .tup (([c1, c2, c3, c4, c5, c6, c7, c8, c9] : List Addr).map V.ref)) ht
    refine ⟨e, C', t, [c1, c2, c3, c4, c5, c6, c7, c8, c9], false, rfl, upd_same, ⟨some d, false, st _ _ ee, fun d' e' => by cases e'; exact ⟨_, st _ _ hd⟩⟩, X.xc, X.any, false, rfl, iteF ⟨_, rfl, ?_⟩⟩
    have := q _ (s1.trans st)
    rw [o] at this
    exact this
end
end K10
namespace K10
open PySem PySem.Spec PyProof.Rows L2 K01 K03
def spLaw (K : PySem.W.Frag) : Sp := fun vs H Q _ => ∃ (a : Addr) (ns : List Int), vs = [.ref a] ∧ SqL K H a (ns.map V.int) ∧ ns.length ≤ 63 ∧ ∀ H', Q (.bl true) H'
theorem areInts {K : PySem.W.Frag} {H : Hp} : ∀ xs : List Int, AreD K H (xs.map D.int) (bv xs)
  | [] => rfl
  | x :: xs => ⟨.int x, bv xs, rfl, rfl, areInts xs⟩
theorem isB {K : PySem.W.Frag} {H : Hp} {r : Addr} {l : List Int} (h : SqT K H r (bv l)) : IsD K H (bD l) (.ref r) := ⟨r, _, rfl, h, areInts l⟩
theorem noLB (l : List Int) : noL (bD l) = true := by
  unfold bD
  simp only [noL]
  induction l with
  | nil => rfl
  | cons x l ih => simp only [List.map_cons, noLs, noL, Bool.true_and]; exact ih
theorem noLBs : ∀ fs : List (List Int), noLs (fs.map bD) = true
  | [] => rfl
  | f :: fs => by simp only [List.map_cons, noLs, Bool.and_eq_true]; exact ⟨noLB f, noLBs fs⟩
structure FI (K : PySem.W.Frag) (H : Hp) (its : List IT) (us : List V) : Prop where
  are : AreD K H ((its.map byI).map bD) us
  gd : ∀ it ∈ its, GdI it ∧ dpI it ≤ 3 ∧ (byI it).length ≤ 3900
theorem FI.ul {K : PySem.W.Frag} {H : Hp} {its : List IT} {us : List V} (h : FI K H its us) : us.length = its.length := by rw [← h.are.length, List.length_map, List.length_map]
theorem FI.up {K : PySem.W.Frag} {H H' : Hp} {its : List IT} {us : List V} (h : FI K H its us) (u : Up K H H') : FI K H' its us := ⟨AreD.up u _ _ (noLBs _) h.are, h.gd⟩
theorem FI.nil {K : PySem.W.Frag} {H : Hp} : FI K H [] [] := ⟨rfl, fun it m => absurd m List.not_mem_nil⟩
theorem FI.snoc {K : PySem.W.Frag} {H : Hp} {its : List IT} {us : List V} {it : IT} {r : Addr} (h : FI K H its us) (q : SqT K H r (bv (byI it))) (g : GdI it) (d : dpI it ≤ 3) (l : (byI it).length ≤ 3900) : FI K H (its ++ [it]) (us ++ [.ref r]) := by
  refine ⟨by rw [List.map_append, List.map_append]; exact AreD.append h.are (AreD.one (isB q)), fun i m => ?_⟩
  rcases List.mem_append.mp m with m | m
  · exact h.gd i m
  · rw [List.mem_singleton.mp m]; exact ⟨g, d, l⟩
theorem len_le {n : Nat} : ∀ {its : List IT}, (∀ it ∈ its, (byI it).length ≤ n) → (its.map byI).flatten.length ≤ its.length * n
  | [], _ => Nat.zero_le _
  | i :: its, h => by
    have h1 := h i List.mem_cons_self
    have h2 := len_le (its := its) fun g m => h g (List.mem_cons_of_mem _ m)
    rw [List.map_cons, List.flatten_cons, List.length_append, List.length_cons, Nat.add_mul]
    omega
theorem lnB3 {k : Nat} (h : k ≤ 3) : lnB k ≤ 3900 := by
  match k, h with
  | 0, _ => decide
  | 1, _ => decide
  | 2, _ => decide
  | 3, _ => decide
theorem step_comp {l Dd : Addr} {H4 H5 : Hp} {ys : List V} (hD : H4 Dd = none) (nDl : Dd ≠ l) (t5 : Step l H4 H5) : Step l H4 (upd H5 Dd (.lst ys)) := by
  refine ⟨fun x o n h => ?_, ?_⟩
  · by_cases e : x = Dd
    · rw [e] at h; rw [hD] at h; cases h
    · rw [upd_ne e]; exact t5.keep x o n h
  · obtain ⟨a', b', c', d', hx⟩ := t5.feed
    exact ⟨a', b', c', d', by rw [upd_ne (Ne.symm nDl)]; exact hx⟩
theorem sk_whole (it : IT) : ∀ n, dpI it ≤ n → GdI it → (byI it).length ≤ 1000000 → Sk (byI it) := by
  intro n
  induction n generalizing it with
  | zero => intro h; exact absurd h (by cases it <;> simp only [dpI] <;> omega)
  | succ n ih =>
    intro h gd ln
    cases it with
    | whole k => exact Sk.who _ (fold_nn k) (Int.le_trans (fold_le gd.1 gd.2) (by decide))
    | text x =>
      have e : byI (.text x) = ((1 : Nat) : Int) :: (Lg ((codes x).length : Int) ++ codes x) := by simp only [byI, sgB, codes_len]; rfl
      rw [e]
      exact Sk.szd 1 (by decide) (by decide) _ (by rw [codes_len]; have := gd.1; omega)
    | arm k e =>
      have z : byI (.arm k e) = 5 :: (Lg k ++ byI e) := by simp only [byI]
      rw [z] at ln ⊢
      rw [List.length_cons, List.length_append] at ln
      exact Sk.arm k (by have := gd.1; omega) (by have := gd.2.1; omega) _ (ih e (by simp only [dpI] at h; omega) gd.2.2 (by omega))
    | lst s ls es =>
      have z : byI (.lst s ls es) = ((s + 2 : Nat) : Int) :: (Lg ((byIs ls es).length : Int) ++ byIs ls es) := by simp only [byI]; rw [show ((s : Int) + 2) = ((s + 2 : Nat) : Int) by omega]
      rw [z] at ln ⊢
      rw [List.length_cons, List.length_append] at ln
      exact Sk.szd (s + 2) (by omega) (by have := gd.1; omega) _ (by omega)
theorem ch_lt {σ : L2.St} {H : Hp} {Q : VK} {i j : Nat} {n m : Int} (h1 : σ[i]? = some (some (.int n))) (h2 : σ[j]? = some (some (.int m))) (q : Q (.bl (decide (0 ≤ n ∧ n < m))) H) :
    tChain (rI0 fun i j => V.bl (decide (i ≤ j))) (rI0 fun i j => V.bl (decide (i < j))) (tC (V.int 0)) (tVar i) (tVar j) σ H Q := by
  refine ⟨_, h1, _, _, rfl, rfl, _, rfl, ?_⟩
  by_cases c : 0 ≤ n
  · refine iteY (decide_eq_true c) ⟨_, h2, _, _, rfl, rfl, ?_⟩
    show Q (V.bl (decide (n < m))) H
    rw [show decide (n < m) = decide (0 ≤ n ∧ n < m) from decide_eq_decide.mpr ⟨fun z => ⟨c, z⟩, fun z => z.2⟩]
    exact q
  · refine iteN (decide_eq_false c) ?_
    rw [show decide (0 ≤ n ∧ n < m) = false from decide_eq_false fun z => c z.1] at q
    exact q
theorem ch_le3 {σ : L2.St} {H : Hp} {Q : VK} {i j k : Nat} {n o m : Int} (h1 : σ[i]? = some (some (.int n))) (h2 : σ[j]? = some (some (.int o))) (h3 : σ[k]? = some (some (.int m))) (q : Q (.bl (decide (0 ≤ n ∧ n ≤ o ∧ o ≤ m))) H) :
    tChain3 (rI0 fun i j => V.bl (decide (i ≤ j))) (rI0 fun i j => V.bl (decide (i ≤ j))) (rI0 fun i j => V.bl (decide (i ≤ j))) (tC (V.int 0)) (tVar i) (tVar j) (tVar k) σ H Q := by
  refine ⟨_, h1, _, _, rfl, rfl, _, rfl, ?_⟩
  by_cases c : 0 ≤ n
  · refine iteY (decide_eq_true c) ⟨_, h2, _, _, rfl, rfl, _, rfl, ?_⟩
    by_cases c2 : n ≤ o
    · refine iteY (decide_eq_true c2) ⟨_, h3, _, _, rfl, rfl, ?_⟩
      show Q (V.bl (decide (o ≤ m))) H
      rw [show decide (o ≤ m) = decide (0 ≤ n ∧ n ≤ o ∧ o ≤ m) from decide_eq_decide.mpr ⟨fun z => ⟨c, c2, z⟩, fun z => z.2.2⟩]
      exact q
    · refine iteN (decide_eq_false c2) ?_
      rw [show decide (0 ≤ n ∧ n ≤ o ∧ o ≤ m) = false from decide_eq_false fun z => c2 z.2.1] at q
      exact q
  · refine iteN (decide_eq_false c) ?_
    rw [show decide (0 ≤ n ∧ n ≤ o ∧ o ≤ m) = false from decide_eq_false fun z => c z.1] at q
    exact q
theorem pick2 : ∀ b : Bool, atI [V.str "refused", V.str "told"] (if b = true then 1 else 0) = some (.str (wd b))
  | true => rfl
  | false => rfl
section
variable {P : Program} {w : World} {K : PySem.W.Frag} {mg : Str → Option Value} {base : Heap} {f : Addr} {fd : FuncData}
theorem ok_law (F : Fun K "law" "law" s_law f fd) (m : Bn mg) (g_law_feed : Fn P w K mg base 1 "_law_feed" ["_law_script", "_law_k"] (spFeed K)) (g_law_draw : Fn P w K mg base 1 "_law_draw" ["_law_feed_here", "_law_many"] spDraw)
    (g_law_item : Fn P w K mg base 7 "_law_item" ["_law_feed_here", "_law_deep"] (fun vs H Q E => ∃ d, d ≤ 5 ∧ spI K Gd d vs H Q E)) (g_law_packed : Fn P w K mg base 13 "_law_packed" ["_law_item_here"] (spLPack K (9 + 1)))
    (g_bundled : Fn P w K mg base 3 "bundled" ["files"] (spBd K)) (g_law_word : Fn P w K mg base 8 "_law_word" ["_law_bundle", "_law_some"] (spWord K)) : FnOk P w K mg base CX0 28 f fd ["_law_script"] (spLaw K) := by
  refine F.ok sc_law (fun vs H Q E h => ?_) (fun cdv A outer s H vs Q E hr h => ?_)
  · obtain ⟨a, ns, rfl, _⟩ := h
    rfl
  obtain ⟨a, ns, rfl, hS, h63, q⟩ := h
  have hz : ∀ n : Nat, n ≤ 1000000 → n < sizeLine := fun n h => by have := sizeLine_eq; omega
  refine ⟨_, (@pss_cons _ _ _ _ _ (@ps_for _ _ _ _ _ _ _ _ PassesOwn.never rfl (@pi_range1 _ _ _ _ _ _ rfl m.range (@pa_cons _ _ _ _ _ pe_int pa_nil rfl) (by first | rfl | decide | (intro _; rfl) | exact .inl rfl | exact .inr rfl | assumption)) (@pg_nameI _ 1 _ _ sc_law.nd rfl (Or.inl rfl) (by first | exact .inl rfl | exact .inr rfl)) (@pss_cons _ _ _ _ _ (@ps_setI _ 2 _ _ _ _ _ sc_law.nd rfl (by first | exact Or.inl rfl | exact Or.inr rfl) (@pe_callF _ _ _ _ _ _ _ _ _ _ g_law_feed (hr.mono (by omega)) rfl (@pa_cons _ _ _ _ _ (pv 0) (@pa_cons _ _ _ _ _ (pv 1) pa_nil rfl) rfl) (by decide) rfl rfl) rfl (by first | exact .inl rfl | exact .inr rfl)) (@pss_cons _ _ _ _ _ (@ps_setI _ 3 _ _ _ _ _ sc_law.nd rfl (by first | exact Or.inl rfl | exact Or.inr rfl) (@pe_callF _ _ _ _ _ _ _ _ _ _ g_law_draw (hr.mono (by omega)) rfl (@pa_cons _ _ _ _ _ (pv 2) (@pa_cons _ _ _ _ _ pe_int pa_nil rfl) rfl) (by decide) rfl rfl) rfl (by first | exact .inl rfl | exact .inr rfl)) (@pss_cons _ _ _ _ _ (@ps_setI _ 4 _ _ _ _ _ sc_law.nd rfl (by first | exact Or.inl rfl | exact Or.inr rfl) (@pe_callF _ _ _ _ _ _ _ _ _ _ g_bundled (hr.mono (by omega)) rfl (@pa_cons _ _ _ _ _ (@pe_compI _ N_law (defScope s_law) ["_law_j", "_law_feed_here"] [none, some 2] _ _ _ _ _ _ _ _ _ _ rfl (@pi_range1 _ _ _ _ _ _ rfl m.range (@pa_cons _ _ _ _ _ (pv 3) pa_nil rfl) (by first | rfl | decide | (intro _; rfl) | exact .inl rfl | exact .inr rfl | assumption)) ⟨rfl, rfl, by decide +kernel, by decide +kernel⟩ (fun _ _ _ =>  (@pg_nameI _ 0 _ _ (show List.Nodup (["_law_j", "_law_feed_here"] : List Str) from by decide +kernel) rfl (Or.inl rfl) (by first | exact .inl rfl | exact .inr rfl))) (fun _ _ _ =>  pts_nil) (fun _ _ _ =>  (@pe_callF _ _ _ _ _ _ _ _ _ _ g_law_packed (hr.mono (by omega)) rfl (@pa_cons _ _ _ _ _ (@pe_callF _ _ _ _ _ _ _ _ _ _ g_law_item (hr.mono (by omega)) rfl (@pa_cons _ _ _ _ _ (pv 1) (@pa_cons _ _ _ _ _ pe_int pa_nil rfl) rfl) (by decide) rfl rfl) pa_nil rfl) (by decide) rfl rfl)) (by first | rfl | decide | (intro _; rfl) | exact .inl rfl | exact .inr rfl | assumption)) pa_nil rfl) (by decide) rfl rfl) rfl (by first | exact .inl rfl | exact .inr rfl)) (@pss_cons _ _ _ _ _ (@ps_setI _ 5 _ _ _ _ _ sc_law.nd rfl (by first | exact Or.inl rfl | exact Or.inr rfl) (@pe_lst _ _ _ _ (@pa_cons _ _ _ _ _ (@pe_un _ _ _ _ _ _ un_neg pe_int) (@pa_cons _ _ _ _ _ pe_int (@pa_cons _ _ _ _ _ (@pe_op _ _ _ _ _ _ _ _ op_sub (pv 3) pe_int) (@pa_cons _ _ _ _ _ (pv 3) (@pa_cons _ _ _ _ _ (@pe_op _ _ _ _ _ _ _ _ op_add (pv 3) pe_int) (@pa_cons _ _ _ _ _ pe_int (@pa_cons _ _ _ _ _ (@pe_un _ _ _ _ _ _ un_neg (@pe_op _ _ _ _ _ _ _ _ op_pow pe_int pe_int)) (@pa_cons _ _ _ _ _ (@pe_op _ _ _ _ _ _ _ _ op_pow pe_int pe_int) (@pa_cons _ _ _ _ _ (@pe_un _ _ _ _ _ _ un_neg (pv 3)) (@pa_cons _ _ _ _ _ (@pe_op _ _ _ _ _ _ _ _ op_fdiv (pv 3) pe_int) pa_nil rfl) rfl) rfl) rfl) rfl) rfl) rfl) rfl) rfl) rfl)) rfl (by first | exact .inl rfl | exact .inr rfl)) (@pss_one _ _ _ (@ps_for _ _ _ _ _ _ _ _ PassesOwn.never rfl (@pi_range1 _ _ _ _ _ _ rfl m.range (@pa_cons _ _ _ _ _ pe_int pa_nil rfl) (by first | rfl | decide | (intro _; rfl) | exact .inl rfl | exact .inr rfl | assumption)) (@pg_nameI _ 6 _ _ sc_law.nd rfl (Or.inl rfl) (by first | exact .inl rfl | exact .inr rfl)) (@pss_cons _ _ _ _ _ (@ps_setI _ 7 _ _ _ _ _ sc_law.nd rfl (by first | exact Or.inl rfl | exact Or.inr rfl) (@pe_ix _ _ _ _ _ _ _ ix_list (pv 5) (@pe_callF _ _ _ _ _ _ _ _ _ _ g_law_draw (hr.mono (by omega)) rfl (@pa_cons _ _ _ _ _ (pv 2) (@pa_cons _ _ _ _ _ pe_int pa_nil rfl) rfl) (by decide) rfl rfl) (fun _ _ =>  rfl)) rfl (by first | exact .inl rfl | exact .inr rfl)) (@pss_cons _ _ _ _ _ (@ps_if _ _ _ _ _ _ _ _ (@pt_cmpR _ _ _ _ _ _ _ _ op_ne (@pe_callF _ _ _ _ _ _ _ _ _ _ g_law_word (hr.mono (by omega)) rfl (@pa_cons _ _ _ _ _ (pv 4) (@pa_cons _ _ _ _ _ (@pe_lst _ _ _ _ (@pa_cons _ _ _ _ _ (pv 7) pa_nil rfl)) pa_nil rfl) rfl) (by decide) rfl rfl) (@pe_ix _ _ _ _ _ _ _ ix_list (@pe_lst _ _ _ _ (@pa_cons _ _ _ _ _ pe_str (@pa_cons _ _ _ _ _ pe_str pa_nil rfl) rfl)) (@pe_callTy _ _ _ _ _ _ _ _ _ call_int1 rfl m.int b_int (@pa_cons _ _ _ _ _ (@pe_chain _ _ _ _ _ _ _ _ _ _ _ _ op_le op_lt pe_int (pv 7) (pv 3) (by first | rfl | decide | (intro _; rfl) | exact .inl rfl | exact .inr rfl | assumption)) pa_nil rfl) (by first | rfl | decide | (intro _; rfl) | exact .inl rfl | exact .inr rfl | assumption) (by first | rfl | decide | (intro _; rfl) | exact .inl rfl | exact .inr rfl | assumption) (by first | rfl | decide | (intro _; rfl) | exact .inl rfl | exact .inr rfl | assumption) (by first | rfl | decide | (intro _; rfl) | exact .inl rfl | exact .inr rfl | assumption)) (fun _ _ =>  rfl)) (nomark _)) (@pss_one _ _ _ (@ps_ret _ _ _ _ pe_bl)) pss_nil) (@pss_cons _ _ _ _ _ (@ps_setI _ 8 _ _ _ _ _ sc_law.nd rfl (by first | exact Or.inl rfl | exact Or.inr rfl) (@pe_ix _ _ _ _ _ _ _ ix_list (pv 5) (@pe_callF _ _ _ _ _ _ _ _ _ _ g_law_draw (hr.mono (by omega)) rfl (@pa_cons _ _ _ _ _ (pv 2) (@pa_cons _ _ _ _ _ pe_int pa_nil rfl) rfl) (by decide) rfl rfl) (fun _ _ =>  rfl)) rfl (by first | exact .inl rfl | exact .inr rfl)) (@pss_one _ _ _ (@ps_if _ _ _ _ _ _ _ _ (@pt_cmpR _ _ _ _ _ _ _ _ op_ne (@pe_callF _ _ _ _ _ _ _ _ _ _ g_law_word (hr.mono (by omega)) rfl (@pa_cons _ _ _ _ _ (pv 4) (@pa_cons _ _ _ _ _ (@pe_lst _ _ _ _ (@pa_cons _ _ _ _ _ (pv 7) (@pa_cons _ _ _ _ _ (pv 8) pa_nil rfl) rfl)) pa_nil rfl) rfl) (by decide) rfl rfl) (@pe_ix _ _ _ _ _ _ _ ix_list (@pe_lst _ _ _ _ (@pa_cons _ _ _ _ _ pe_str (@pa_cons _ _ _ _ _ pe_str pa_nil rfl) rfl)) (@pe_callTy _ _ _ _ _ _ _ _ _ call_int1 rfl m.int b_int (@pa_cons _ _ _ _ _ (pe_chain3 op_le op_le op_le pe_int (pv 7) (pv 8) (pv 3)) pa_nil rfl) (by first | rfl | decide | (intro _; rfl) | exact .inl rfl | exact .inr rfl | assumption) (by first | rfl | decide | (intro _; rfl) | exact .inl rfl | exact .inr rfl | assumption) (by first | rfl | decide | (intro _; rfl) | exact .inl rfl | exact .inr rfl | assumption) (by first | rfl | decide | (intro _; rfl) | exact .inl rfl | exact .inr rfl | assumption)) (fun _ _ =>  rfl)) (nomark _)) (@pss_one _ _ _ (@ps_ret _ _ _ _ pe_bl)) pss_nil))))) (by first | rfl | decide | (intro _; rfl) | exact .inl rfl | exact .inr rfl | assumption))))))) (by first | rfl | decide | (intro _; rfl) | exact .inl rfl | exact .inr rfl | assumption)) (@pss_one _ _ _ (@ps_ret _ _ _ _ pe_bl))), ?_⟩
  refine ⟨4, rfl, by decide, by decide, for_range (n := 4) (fun i σ H2 => ∃ o1 o2 o3 o4 o5 o6 o7 o8, σ = [some (.ref a), o1, o2, o3, o4, o5, o6, o7, o8] ∧ Same H H2) ⟨_, _, _, _, _, _, _, _, rfl, Same.refl H⟩ ?_ ?_⟩
  · rintro i σ H2 hi ⟨o1, o2, o3, o4, o5, o6, o7, o8, rfl, s2⟩
    refine ⟨_, rfl, _, rfl, a, ns, _, rfl, s2.seq hS, h63, by omega, fun l H3 s3 hl0 fe => ?_⟩
    have nl : H l = none := s2.free hl0
    have s23 : Same H H3 := s2.trans s3
    refine ⟨_, rfl, l, 6, rfl, fe, by decide, by decide, fun r4 H4 a4 b4 t4 => ?_⟩
    refine ⟨_, rfl, _, rfl, by omega, by omega, fun Dd fp sx hD => ?_⟩
    have nDl : Dd ≠ l := t4.feed.ne hD
    refine comp_range (n := r4.toNat) (fun k ys σ H5 => Step l H4 H5 ∧ H5 Dd = some (.lst ys) ∧ (∃ o, σ = [o, some (.ref l)]) ∧ ∃ its, its.length = k ∧ FI K H5 its ys) ⟨(Step.refl t4.feed).lay t4.feed hD, upd_same, ⟨_, rfl⟩, [], rfl, FI.nil⟩ ?_ ?_ ?_
    · rintro k ys σ H5 hk ⟨_, h5, _⟩
      exact h5
    · rintro k ys σ H5 hk ⟨t5, h5, ⟨o, rfl⟩, its, ik, F5⟩
      refine nameT ⟨_, rfl, 2, by omega, l, rfl, t5.feed, fun v e H7 ie de t7 => ?_⟩
      obtain ⟨it, rfl, ni⟩ := itm_it 2 e ie
      have ln : (byI it).length ≤ 3900 := Nat.le_trans ni.ln (lnB3 (by decide))
      have dp : dpI it ≤ 3 := Nat.le_trans ni.dp (by decide)
      refine ⟨v, it, rfl, de, ni.gd, (show dpI it ≤ 9 + 1 by omega), by omega, fun r8 H8 s8 h8 => ?_⟩
      have h58 : H8 Dd = some (.lst ys) := s8 _ _ (t7.keep _ _ nDl h5)
      have u58 : Up K H5 H8 := (t7.up t5.feed).trans s8.up
      exact ⟨h58, hz _ (by rw [F5.ul]; omega), step_comp hD nDl ((t5.trans t7).same s8), upd_same, ⟨_, rfl⟩, its ++ [it], by rw [List.length_append, ik]; rfl, (F5.up (u58.trans (up_set h58))).snoc (up_set h58 _ _ h8) ni.gd dp ln⟩
    rintro us σ5 H5 ⟨t5, h5, _, its, ik, F5⟩
    have fl := len_le (n := 3900) (its := its) fun it mi => (F5.gd it mi).2.2
    have bok : BOk (its.map byI) := ⟨fun g mg' => by
      obtain ⟨it, mi, rfl⟩ := List.mem_map.mp mg'
      obtain ⟨g1, g2, g3⟩ := F5.gd it mi
      exact sk_whole it _ (Nat.le_refl _) g1 (by omega), by omega⟩
    have T5 : Step l H3 H5 := t4.trans t5
    refine ⟨Dd, us, its.map byI, rfl, SqL.of h5, F5.are, by omega, fun rb H6 s6 h6 => ?_⟩
    have fe6 : Feed H6 l := (T5.same s6).feed
    have pw : CPow 10 9 := ⟨by decide, by decide, by decide⟩
    refine ⟨_, rfl, _, rfl, _, _, rfl, rfl, _, rfl, _, rfl, _, _, rfl, rfl, _, _, rfl, rfl, pw, _, rfl, _, _, rfl, rfl, pw, _, rfl, _, rfl, _, rfl, _, _, rfl, rfl, ⟨by decide, by decide⟩, (by show 10 ≤ sizeLine; decide), fun p hp => ?_⟩
    have npl : p ≠ l := fe6.ne hp
    generalize hnm : ([-1, 0, r4 - 1, r4, r4 + 1, 1, -(10 ^ (9 : Int).toNat), 10 ^ (9 : Int).toNat, -r4, r4 / 2] : List Int) = nm
    have nml : nm.length = 10 := by rw [← hnm]; rfl
    have fr : ((its.map byI).length : Int) = r4 := by rw [List.length_map]; omega
    refine ⟨12, rfl, by decide, by decide, for_range (n := 12) (fun i' σ H8 => ∃ o6 o7 o8, σ = [some (.ref a), some (.int (0 + (i : Int))), some (.ref l), some (.int r4), some (.ref rb), some (.ref p), o6, o7, o8] ∧ Step l H3 H8 ∧ H8 p = some (.lst (nm.map V.int)) ∧ SqT K H8 rb (bv (Bnd (its.map byI)))) ?_ ?_ ?_⟩
    · refine ⟨_, _, _, rfl, (T5.same s6).lay fe hp, ?_, up_put hp _ _ h6⟩
      rw [← hnm]
      exact upd_same
    · rintro i' σ H8 hi' ⟨o6, o7, o8, rfl, t8, h8, b8⟩
      refine ⟨_, rfl, _, rfl, l, 10, rfl, t8.feed, by decide, by decide, fun r10 H10 a10 b10 t10 => ?_⟩
      obtain ⟨n, mn, hn⟩ := pickI nm a10 (by rw [nml]; exact b10)
      have h10 := t10.keep _ _ npl h8
      have b10' := t10.up (K := K) t8.feed _ _ b8
      refine ⟨p, _, _, _, rfl, rfl, SqL.of h10, hn, ?_⟩
      refine ⟨_, rfl, _, rfl, (by show 1 ≤ sizeLine; decide), fun t ht => ?_⟩
      have s11 := Same.lay (o := .lst [V.int n]) ht
      refine ⟨rb, t, its.map byI, [n], rfl, s11.up _ _ b10', bok, SqL.of upd_same, .inl rfl, fun H12 s12 => ?_⟩
      refine ⟨(by show 2 ≤ sizeLine; decide), fun t2 ht2 => ch_lt rfl rfl (.inr ⟨_, rfl, t2, _, _, _, rfl, rfl, SqL.of upd_same, pick2 _, rfl, _, rfl, iteN ?_ ?_⟩)⟩
      · rw [← fr]
        simp [okW]
      have s13 := (s11.trans s12).trans (Same.lay (o := .lst [V.str "refused", V.str "told"]) ht2)
      have t13 := (t8.trans t10).same s13
      refine ⟨_, rfl, _, rfl, l, 10, rfl, t13.feed, by decide, by decide, fun r14 H14 a14 b14 t14 => ?_⟩
      obtain ⟨n', mn', hn'⟩ := pickI nm a14 (by rw [nml]; exact b14)
      have h14 := t14.keep _ _ npl (s13 _ _ h10)
      have b14' := t14.up (K := K) t13.feed _ _ (s13.up _ _ b10')
      refine ⟨p, _, _, _, rfl, rfl, SqL.of h14, hn', ?_⟩
      refine ⟨_, rfl, _, rfl, _, rfl, (by show 2 ≤ sizeLine; decide), fun t3 ht3 => ?_⟩
      have s15 := Same.lay (o := .lst [V.int n, V.int n']) ht3
      refine ⟨rb, t3, its.map byI, [n, n'], rfl, s15.up _ _ b14', bok, SqL.of upd_same, .inr rfl, fun H16 s16 => ?_⟩
      refine ⟨(by show 2 ≤ sizeLine; decide), fun t4 ht4 => ch_le3 rfl rfl rfl (.inr ⟨_, rfl, t4, _, _, _, rfl, rfl, SqL.of upd_same, pick2 _, rfl, _, rfl, iteN ?_ ?_⟩)⟩
      · rw [← fr]
        simp [okW]
      have s17 := (s15.trans s16).trans (Same.lay (o := .lst [V.str "refused", V.str "told"]) ht4)
      exact ⟨_, _, _, rfl, (t13.trans t14).same s17, s17 _ _ h14, s17.up _ _ b14'⟩
    · rintro σ H8 ⟨o6, o7, o8, rfl, t8, h8, b8⟩
      exact ⟨_, _, _, _, _, _, _, _, rfl, fun x o hx => t8.keep _ _ (ne_of_none hx nl) (s23 _ _ hx)⟩
  · rintro σ H2 ⟨o1, o2, o3, o4, o5, o6, o7, o8, rfl, s2⟩
    exact q _
end
end K10
namespace K10
open PySem PySem.Spec PyProof.Rows L2 K01 K03
def xOk (K : PySem.W.Frag) (C : Addr) (pre : List Value) : Bool :=
  PySem.W.findIn K (.ref C) "__setattr__" == some (some (.builtin "object.__setattr__")) && (PySem.W.findIn K (.ref C) "__getattribute__" == some (some (.builtin "BaseException.__getattribute__")) &&
  (PySem.W.findIn K (.ref C) "__getattr__" == some none && (PySem.W.findIn K (.ref C) "__class__" == some (some (.builtin "object.__class__")) && (PySem.W.hasDictIn K C && (PySem.W.typeIn K (.ref C) == some (.type "type") &&
  (((PySem.W.clsIn K C).any fun cd => cd.mro == pre ++ veMro) && (PySem.W.specialIn K (.builtin "object.__class__") "__get__" == some (some (.builtin "getset_descriptor.__get__")) &&
  (PySem.W.takesIn K (.builtin "object.__class__") == some true && (PySem.W.findIn K (.ref C) "step" == some none && (xIn K C && PySem.W.keepIn K (.ref C)))))))))))
theorem only_ve : ∀ (as : List Addr), onlyVE (as.map Value.ref ++ veMro) = true
  | [] => by decide +kernel
  | a :: as => only_ve as
structure XOk (K : PySem.W.Frag) (C : Addr) (as : List Addr) : Prop where
  xc : XCls K C
  mro : ∀ b, PySem.W.mroIn K C b = some ((as.map Value.ref ++ veMro).contains b)
  here : (PySem.W.clsIn K C).isSome = true
  no : NoAttr K C "step"
  made : xIn K C = true
  kp : PySem.W.keepIn K (.ref C) = true
theorem xok_of {K : PySem.W.Frag} {C : Addr} {a : Addr} {as : List Addr} (h : xOk K C ((a :: as).map Value.ref) = true) : XOk K C (a :: as) := by
  unfold xOk at h
  simp only [Bool.and_eq_true, beq_iff_eq] at h
  obtain ⟨h1, h2, h3, h4, h5, h6, h7, h8, h9, h10, h11, h12⟩ := h
  obtain ⟨cd, hc, hm⟩ := PySem.W.any_some h7
  have hm : cd.mro = (a :: as).map Value.ref ++ veMro := beq_iff_eq.mp hm
  have mro : ∀ b, PySem.W.mroIn K C b = some (((a :: as).map Value.ref ++ veMro).contains b) := fun b => by
    unfold PySem.W.mroIn
    rw [hc, Option.bind_some, hm]
    rfl
  have inVE : ∀ b, veMro.contains b = true → (((a :: as).map Value.ref ++ veMro).contains b) = true := fun b hb => by
    rw [List.contains_iff_mem] at hb ⊢
    exact List.mem_append_right _ hb
  refine ⟨⟨h1, h2, h3, h4, ?_, ?_, h5, h6, ?_, h8, h9⟩, mro, by rw [hc]; rfl, h10, h11, h12⟩
  · rw [mro, inVE _ (by decide +kernel)]
  · rw [mro, inVE _ (by decide +kernel)]
  · rw [hc]
    show onlyVE cd.mro = true
    rw [hm]; exact only_ve _
theorem XOk.ve {K : PySem.W.Frag} {C M : Addr} (x : XOk K C [C, M]) : PySem.W.kitOne K (.ref C) (.type "ValueError") = some true := by
  unfold PySem.W.kitOne
  rw [if_neg (by simp)]
  unfold PySem.W.kitCls
  dsimp only
  rw [if_pos (by decide +kernel)]
  show PySem.W.mroIn K C (.type "ValueError") = some true
  rw [x.mro]
  exact congrArg some (List.contains_iff_mem.mpr (List.mem_append_right _ (by decide +kernel)))
theorem XOk.up {K : PySem.W.Frag} {C M : Addr} (x : XOk K C [C, M]) : PySem.W.mroIn K C (.ref M) = some true := by
  rw [x.mro]
  congr 1
  rw [List.contains_iff_mem]
  simp
theorem kit_self {K : PySem.W.Frag} {C : Addr} : PySem.W.kitOne K (.ref C) (.ref C) = some true := by
  unfold PySem.W.kitOne
  rw [if_pos (beq_self_eq_true _)]
end K10
namespace K10
open PySem PySem.Spec PyProof.Rows L2 K01 K03
set_option maxHeartbeats 0 in
theorem all_mk {l : PySem.W.OpenLaw} {w : World} {K : PySem.W.Frag} {h : Heap} {mg : Str → Option Value} {fa f1 f2 f3 f4 f5 f6 f7 f8 f9 f10 f11 f12 f13 f14 f15 f16 f17 f18 f19 f20 f21 f22 f23 f24 f25 f26 f27 aS aT M C c1_ c2_ c3_ c4_ c5_ c6_ c7_ c8_ c9_ gi : Addr} (X : K.In h) (G : h.Ns mainGlobals mg) (hfa : mg "law" = some (.ref fa))
    {odi ani : Option Addr} {sli : Array (Option Value)} {oci kVi dci pmi cdi cti : Value} {od1 an1 od2 an2 od3 an3 od4 an4 od5 an5 od6 an6 od7 an7 od8 an8 od9 an9 od10 an10 od11 an11 od12 an12 od13 an13 od14 an14 od15 an15 od16 an16 od17 an17 od18 an18 od19 an19 od20 an20 od21 an21 od22 an22 od23 an23 od24 an24 od25 an25 od26 an26 od27 an27 : Option Addr} {sl1 sl2 sl3 sl4 sl5 sl6 sl7 sl8 sl9 sl10 sl11 sl12 sl13 sl14 sl15 sl16 sl17 sl18 sl19 sl20 sl21 sl22 sl23 sl24 sl25 sl26 sl27 slS : Array (Option Value)} {oc1 kV1 dc1 pm1 cd1 ct1 oc2 kV2 dc2 pm2 cd2 ct2 oc3 kV3 dc3 pm3 cd3 ct3 oc4 kV4 dc4 pm4 cd4 ct4 oc5 kV5 dc5 pm5 cd5 ct5 oc6 kV6 dc6 pm6 cd6 ct6 oc7 kV7 dc7 pm7 cd7 ct7 oc8 kV8 dc8 pm8 cd8 ct8 oc9 kV9 dc9 pm9 cd9 ct9 oc10 kV10 dc10 pm10 cd10 ct10 oc11 kV11 dc11 pm11 cd11 ct11 oc12 kV12 dc12 pm12 cd12 ct12 oc13 kV13 dc13 pm13 cd13 ct13 oc14 kV14 dc14 pm14 cd14 ct14 oc15 kV15 dc15 pm15 cd15 ct15 oc16 kV16 dc16 pm16 cd16 ct16 oc17 kV17 dc17 pm17 cd17 ct17 oc18 kV18 dc18 pm18 cd18 ct18 oc19 kV19 dc19 pm19 cd19 ct19 oc20 kV20 dc20 pm20 cd20 ct20 oc21 kV21 dc21 pm21 cd21 ct21 oc22 kV22 dc22 pm22 cd22 ct22 oc23 kV23 dc23 pm23 cd23 ct23 oc24 kV24 dc24 pm24 cd24 ct24 oc25 kV25 dc25 pm25 cd25 ct25 oc26 kV26 dc26 pm26 cd26 ct26 oc27 kV27 dc27 pm27 cd27 ct27 : Value} {nS nT : Nat} {esT : Array DictEntry} {ts0 ts1 ts2 ts3 ts4 ts5 tr : Tok}
    (a1 : PySem.W.nsIn K mainGlobals "long_of" = some (some (.ref f1))) (l1 : K.lookup f1 = some ⟨oc1, od1, .func (PySem.W.fnOf "long_of" "long_of" (defArgs s_long_of) (defBody s_long_of) (defScope s_long_of) .none kV1 dc1 pm1 an1 cd1 ct1), sl1⟩) (c1 : PySem.W.codeIn K cd1 "long_of" = true) (k1 : PySem.W.keepIn K (.ref f1) = true)
    (a2 : PySem.W.nsIn K mainGlobals "behind_long" = some (some (.ref f2))) (l2 : K.lookup f2 = some ⟨oc2, od2, .func (PySem.W.fnOf "behind_long" "behind_long" (defArgs s_behind_long) (defBody s_behind_long) (defScope s_behind_long) .none kV2 dc2 pm2 an2 cd2 ct2), sl2⟩) (c2 : PySem.W.codeIn K cd2 "behind_long" = true) (k2 : PySem.W.keepIn K (.ref f2) = true)
    (a3 : PySem.W.nsIn K mainGlobals "long_at" = some (some (.ref f3))) (l3 : K.lookup f3 = some ⟨oc3, od3, .func (PySem.W.fnOf "long_at" "long_at" (defArgs s_long_at) (defBody s_long_at) (defScope s_long_at) .none kV3 dc3 pm3 an3 cd3 ct3), sl3⟩) (c3 : PySem.W.codeIn K cd3 "long_at" = true) (k3 : PySem.W.keepIn K (.ref f3) = true)
    (a4 : PySem.W.nsIn K mainGlobals "span_at" = some (some (.ref f4))) (l4 : K.lookup f4 = some ⟨oc4, od4, .func (PySem.W.fnOf "span_at" "span_at" (defArgs s_span_at) (defBody s_span_at) (defScope s_span_at) .none kV4 dc4 pm4 an4 cd4 ct4), sl4⟩) (c4 : PySem.W.codeIn K cd4 "span_at" = true) (k4 : PySem.W.keepIn K (.ref f4) = true)
    (a5 : PySem.W.nsIn K mainGlobals "place_behind" = some (some (.ref f5))) (l5 : K.lookup f5 = some ⟨oc5, od5, .func (PySem.W.fnOf "place_behind" "place_behind" (defArgs s_place_behind) (defBody s_place_behind) (defScope s_place_behind) .none kV5 dc5 pm5 an5 cd5 ct5), sl5⟩) (c5 : PySem.W.codeIn K cd5 "place_behind" = true) (k5 : PySem.W.keepIn K (.ref f5) = true)
    (a6 : PySem.W.nsIn K mainGlobals "codes_of" = some (some (.ref f6))) (l6 : K.lookup f6 = some ⟨oc6, od6, .func (PySem.W.fnOf "codes_of" "codes_of" (defArgs s_codes_of) (defBody s_codes_of) (defScope s_codes_of) .none kV6 dc6 pm6 an6 cd6 ct6), sl6⟩) (c6 : PySem.W.codeIn K cd6 "codes_of" = true) (k6 : PySem.W.keepIn K (.ref f6) = true)
    (a7 : PySem.W.nsIn K mainGlobals "arm_part" = some (some (.ref f7))) (l7 : K.lookup f7 = some ⟨oc7, od7, .func (PySem.W.fnOf "arm_part" "arm_part" (defArgs s_arm_part) (defBody s_arm_part) (defScope s_arm_part) .none kV7 dc7 pm7 an7 cd7 ct7), sl7⟩) (c7 : PySem.W.codeIn K cd7 "arm_part" = true) (k7 : PySem.W.keepIn K (.ref f7) = true)
    (a8 : PySem.W.nsIn K mainGlobals "room_parts" = some (some (.ref f8))) (l8 : K.lookup f8 = some ⟨oc8, od8, .func (PySem.W.fnOf "room_parts" "room_parts" (defArgs s_room_parts) (defBody s_room_parts) (defScope s_room_parts) .none kV8 dc8 pm8 an8 cd8 ct8), sl8⟩) (c8 : PySem.W.codeIn K cd8 "room_parts" = true) (k8 : PySem.W.keepIn K (.ref f8) = true)
    (a9 : PySem.W.nsIn K mainGlobals "behind_label" = some (some (.ref f9))) (l9 : K.lookup f9 = some ⟨oc9, od9, .func (PySem.W.fnOf "behind_label" "behind_label" (defArgs s_behind_label) (defBody s_behind_label) (defScope s_behind_label) .none kV9 dc9 pm9 an9 cd9 ct9), sl9⟩) (c9 : PySem.W.codeIn K cd9 "behind_label" = true) (k9 : PySem.W.keepIn K (.ref f9) = true)
    (a10 : PySem.W.nsIn K mainGlobals "label_at" = some (some (.ref f10))) (l10 : K.lookup f10 = some ⟨oc10, od10, .func (PySem.W.fnOf "label_at" "label_at" (defArgs s_label_at) (defBody s_label_at) (defScope s_label_at) .none kV10 dc10 pm10 an10 cd10 ct10), sl10⟩) (c10 : PySem.W.codeIn K cd10 "label_at" = true) (k10 : PySem.W.keepIn K (.ref f10) = true)
    (a11 : PySem.W.nsIn K mainGlobals "behind_item" = some (some (.ref f11))) (l11 : K.lookup f11 = some ⟨oc11, od11, .func (PySem.W.fnOf "behind_item" "behind_item" (defArgs s_behind_item) (defBody s_behind_item) (defScope s_behind_item) .none kV11 dc11 pm11 an11 cd11 ct11), sl11⟩) (c11 : PySem.W.codeIn K cd11 "behind_item" = true) (k11 : PySem.W.keepIn K (.ref f11) = true)
    (a12 : PySem.W.nsIn K mainGlobals "bundled" = some (some (.ref f12))) (l12 : K.lookup f12 = some ⟨oc12, od12, .func (PySem.W.fnOf "bundled" "bundled" (defArgs s_bundled) (defBody s_bundled) (defScope s_bundled) .none kV12 dc12 pm12 an12 cd12 ct12), sl12⟩) (c12 : PySem.W.codeIn K cd12 "bundled" = true) (k12 : PySem.W.keepIn K (.ref f12) = true)
    (a13 : PySem.W.nsIn K mainGlobals "nth" = some (some (.ref f13))) (l13 : K.lookup f13 = some ⟨oc13, od13, .func (PySem.W.fnOf "nth" "nth" (defArgs s_nth) (defBody s_nth) (defScope s_nth) .none kV13 dc13 pm13 an13 cd13 ct13), sl13⟩) (c13 : PySem.W.codeIn K cd13 "nth" = true) (k13 : PySem.W.keepIn K (.ref f13) = true)
    (a14 : PySem.W.nsIn K mainGlobals "cut" = some (some (.ref f14))) (l14 : K.lookup f14 = some ⟨oc14, od14, .func (PySem.W.fnOf "cut" "cut" (defArgs s_cut) (defBody s_cut) (defScope s_cut) .none kV14 dc14 pm14 an14 cd14 ct14), sl14⟩) (c14 : PySem.W.codeIn K cd14 "cut" = true) (k14 : PySem.W.keepIn K (.ref f14) = true)
    (a15 : PySem.W.nsIn K mainGlobals "bundle_of" = some (some (.ref f15))) (l15 : K.lookup f15 = some ⟨oc15, od15, .func (PySem.W.fnOf "bundle_of" "bundle_of" (defArgs s_bundle_of) (defBody s_bundle_of) (defScope s_bundle_of) .none kV15 dc15 pm15 an15 cd15 ct15), sl15⟩) (c15 : PySem.W.codeIn K cd15 "bundle_of" = true) (k15 : PySem.W.keepIn K (.ref f15) = true)
    (a16 : PySem.W.nsIn K mainGlobals "_law_feed" = some (some (.ref f16))) (l16 : K.lookup f16 = some ⟨oc16, od16, .func (PySem.W.fnOf "_law_feed" "_law_feed" (defArgs s_law_feed) (defBody s_law_feed) (defScope s_law_feed) .none kV16 dc16 pm16 an16 cd16 ct16), sl16⟩) (c16 : PySem.W.codeIn K cd16 "_law_feed" = true) (k16 : PySem.W.keepIn K (.ref f16) = true)
    (a17 : PySem.W.nsIn K mainGlobals "_law_draw" = some (some (.ref f17))) (l17 : K.lookup f17 = some ⟨oc17, od17, .func (PySem.W.fnOf "_law_draw" "_law_draw" (defArgs s_law_draw) (defBody s_law_draw) (defScope s_law_draw) .none kV17 dc17 pm17 an17 cd17 ct17), sl17⟩) (c17 : PySem.W.codeIn K cd17 "_law_draw" = true) (k17 : PySem.W.keepIn K (.ref f17) = true)
    (a18 : PySem.W.nsIn K mainGlobals "_law_name" = some (some (.ref f18))) (l18 : K.lookup f18 = some ⟨oc18, od18, .func (PySem.W.fnOf "_law_name" "_law_name" (defArgs s_law_name) (defBody s_law_name) (defScope s_law_name) .none kV18 dc18 pm18 an18 cd18 ct18), sl18⟩) (c18 : PySem.W.codeIn K cd18 "_law_name" = true) (k18 : PySem.W.keepIn K (.ref f18) = true)
    (a19 : PySem.W.nsIn K mainGlobals "_law_number" = some (some (.ref f19))) (l19 : K.lookup f19 = some ⟨oc19, od19, .func (PySem.W.fnOf "_law_number" "_law_number" (defArgs s_law_number) (defBody s_law_number) (defScope s_law_number) .none kV19 dc19 pm19 an19 cd19 ct19), sl19⟩) (c19 : PySem.W.codeIn K cd19 "_law_number" = true) (k19 : PySem.W.keepIn K (.ref f19) = true)
    (a20 : PySem.W.nsIn K mainGlobals "_law_whole" = some (some (.ref f20))) (l20 : K.lookup f20 = some ⟨oc20, od20, .func (PySem.W.fnOf "_law_whole" "_law_whole" (defArgs s_law_whole) (defBody s_law_whole) (defScope s_law_whole) .none kV20 dc20 pm20 an20 cd20 ct20), sl20⟩) (c20 : PySem.W.codeIn K cd20 "_law_whole" = true) (k20 : PySem.W.keepIn K (.ref f20) = true)
    (a21 : PySem.W.nsIn K mainGlobals "_law_text" = some (some (.ref f21))) (l21 : K.lookup f21 = some ⟨oc21, od21, .func (PySem.W.fnOf "_law_text" "_law_text" (defArgs s_law_text) (defBody s_law_text) (defScope s_law_text) .none kV21 dc21 pm21 an21 cd21 ct21), sl21⟩) (c21 : PySem.W.codeIn K cd21 "_law_text" = true) (k21 : PySem.W.keepIn K (.ref f21) = true)
    (a22 : PySem.W.nsIn K mainGlobals "_law_item" = some (some (.ref f22))) (l22 : K.lookup f22 = some ⟨oc22, od22, .func (PySem.W.fnOf "_law_item" "_law_item" (defArgs s_law_item) (defBody s_law_item) (defScope s_law_item) .none kV22 dc22 pm22 an22 cd22 ct22), sl22⟩) (c22 : PySem.W.codeIn K cd22 "_law_item" = true) (k22 : PySem.W.keepIn K (.ref f22) = true)
    (a23 : PySem.W.nsIn K mainGlobals "_law_long" = some (some (.ref f23))) (l23 : K.lookup f23 = some ⟨oc23, od23, .func (PySem.W.fnOf "_law_long" "_law_long" (defArgs s_law_long) (defBody s_law_long) (defScope s_law_long) .none kV23 dc23 pm23 an23 cd23 ct23), sl23⟩) (c23 : PySem.W.codeIn K cd23 "_law_long" = true) (k23 : PySem.W.keepIn K (.ref f23) = true)
    (a24 : PySem.W.nsIn K mainGlobals "_law_key" = some (some (.ref f24))) (l24 : K.lookup f24 = some ⟨oc24, od24, .func (PySem.W.fnOf "_law_key" "_law_key" (defArgs s_law_key) (defBody s_law_key) (defScope s_law_key) .none kV24 dc24 pm24 an24 cd24 ct24), sl24⟩) (c24 : PySem.W.codeIn K cd24 "_law_key" = true) (k24 : PySem.W.keepIn K (.ref f24) = true)
    (a25 : PySem.W.nsIn K mainGlobals "_law_packed" = some (some (.ref f25))) (l25 : K.lookup f25 = some ⟨oc25, od25, .func (PySem.W.fnOf "_law_packed" "_law_packed" (defArgs s_law_packed) (defBody s_law_packed) (defScope s_law_packed) .none kV25 dc25 pm25 an25 cd25 ct25), sl25⟩) (c25 : PySem.W.codeIn K cd25 "_law_packed" = true) (k25 : PySem.W.keepIn K (.ref f25) = true)
    (a26 : PySem.W.nsIn K mainGlobals "_law_word" = some (some (.ref f26))) (l26 : K.lookup f26 = some ⟨oc26, od26, .func (PySem.W.fnOf "_law_word" "_law_word" (defArgs s_law_word) (defBody s_law_word) (defScope s_law_word) .none kV26 dc26 pm26 an26 cd26 ct26), sl26⟩) (c26 : PySem.W.codeIn K cd26 "_law_word" = true) (k26 : PySem.W.keepIn K (.ref f26) = true)
    (a27 : PySem.W.nsIn K mainGlobals "law" = some (some (.ref f27))) (l27 : K.lookup f27 = some ⟨oc27, od27, .func (PySem.W.fnOf "law" "law" (defArgs s_law) (defBody s_law) (defScope s_law) .none kV27 dc27 pm27 an27 cd27 ct27), sl27⟩) (c27 : PySem.W.codeIn K cd27 "law" = true) (k27 : PySem.W.keepIn K (.ref f27) = true)
    (aM : PySem.W.nsIn K mainGlobals "MakeError" = some (some (.ref M))) (aC : PySem.W.nsIn K mainGlobals "NoPlace" = some (some (.ref C)))
    (aC1 : PySem.W.nsIn K mainGlobals "BadByte" = some (some (.ref c1_))) (aC2 : PySem.W.nsIn K mainGlobals "BadDeed" = some (some (.ref c2_))) (aC3 : PySem.W.nsIn K mainGlobals "BadItem" = some (some (.ref c3_))) (aC4 : PySem.W.nsIn K mainGlobals "BadText" = some (some (.ref c4_))) (aC5 : PySem.W.nsIn K mainGlobals "NoFile" = some (some (.ref c5_))) (aC6 : PySem.W.nsIn K mainGlobals "NoMove" = some (some (.ref c6_))) (aC7 : PySem.W.nsIn K mainGlobals "NoRow" = some (some (.ref c7_))) (aC8 : PySem.W.nsIn K mainGlobals "NoTable" = some (some (.ref c8_))) (aC9 : PySem.W.nsIn K mainGlobals "NoValue" = some (some (.ref c9_)))
    (iC : PySem.W.findIn K (.ref C) "__init__" = some (some (.ref gi))) (lJ : K.lookup gi = some ⟨oci, odi, .func (PySem.W.fnOf "__init__" "NoPlace.__init__" (defArgs s_NoPlace_init) (defBody s_NoPlace_init) (defScope s_NoPlace_init) .none kVi dci pmi ani cdi cti), sli⟩) (cJ : PySem.W.codeIn K cdi "NoPlace.__init__" = true) (kJ : PySem.W.keepIn K (.ref gi) = true) (fJ : PySem.W.isFn K (.ref gi) = true)
    (xm : xOk K M [.ref M] = true) (xn : xOk K C [.ref C, .ref M] = true) (xy : PySem.W.kitAny K (.ref C) [.ref c1_, .ref c2_, .ref c3_, .ref c4_, .ref c5_, .ref c6_, .ref c7_, .ref c8_, .ref c9_] = some false) (zv : PySem.W.nsIn K mainGlobals "ValueError" = some none)
    (aSo : PySem.W.nsIn K mainGlobals "SORTS" = some (some (.ref aS))) (lSo : K.lookup aS = some ⟨.type "tuple", none, .seq #[.str "whole" ts0, .str "text" ts1, .str "row" ts2, .str "map" ts3, .str "rec" ts4, .str "arm" ts5] nS, slS⟩)
    (aSt : PySem.W.nsIn K mainGlobals "SORTS_OF_STEPS" = some (some (.ref aT))) (lSt : K.lookup aT = some ⟨.type "dict", none, .dict esT nT, #[]⟩) (kSt : PySem.W.KeysLit w.params esT.toList) (bR : PySem.W.nsIn K aT "at" = some (some (.str "row" tr)))
    (z_len : PySem.W.nsIn K mainGlobals "len" = some none) (z_ord : PySem.W.nsIn K mainGlobals "ord" = some none) (z_max : PySem.W.nsIn K mainGlobals "max" = some none) (z_sorted : PySem.W.nsIn K mainGlobals "sorted" = some none) (z_isinstance : PySem.W.nsIn K mainGlobals "isinstance" = some none) (z_tuple : PySem.W.nsIn K mainGlobals "tuple" = some none) (z_list : PySem.W.nsIn K mainGlobals "list" = some none) (z_set : PySem.W.nsIn K mainGlobals "set" = some none) (z_int : PySem.W.nsIn K mainGlobals "int" = some none) (z_str : PySem.W.nsIn K mainGlobals "str" = some none) (z_bool : PySem.W.nsIn K mainGlobals "bool" = some none) (z_range : PySem.W.nsIn K mainGlobals "range" = some none) (z_zip : PySem.W.nsIn K mainGlobals "zip" = some none) (z_reversed : PySem.W.nsIn K mainGlobals "reversed" = some none) (z_enumerate : PySem.W.nsIn K mainGlobals "enumerate" = some none) (z_sum : PySem.W.nsIn K mainGlobals "sum" = some none) :
    ∃ fd : FuncData, (∀ (s : Shared) (v : Value), BindsTo s fd ⟨[v], []⟩ [("_law_script", v)]) ∧ ∀ base : Heap, K.In base → base.Ns mainGlobals mg → FnOk l.prog w K mg base CX0 28 fa fd ["_law_script"] (spLaw K) := by
  have e := hfa.symm.trans (PySem.W.mg_of X G a27)
  cases e
  have F_long_of := fun_mk (st := s_long_of) l1 c1 k1
  have b_long_of := F_long_of.binds (ps := ["n"]) fun _ _ _ _ _ _ us hl => match us, hl with | [_], _ => rfl
  have m_long_of := PySem.W.mg_of X G a1
  have F_behind_long := fun_mk (st := s_behind_long) l2 c2 k2
  have b_behind_long := F_behind_long.binds (ps := ["file", "at"]) fun _ _ _ _ _ _ us hl => match us, hl with | [_, _], _ => rfl
  have m_behind_long := PySem.W.mg_of X G a2
  have F_long_at := fun_mk (st := s_long_at) l3 c3 k3
  have b_long_at := F_long_at.binds (ps := ["file", "at"]) fun _ _ _ _ _ _ us hl => match us, hl with | [_, _], _ => rfl
  have m_long_at := PySem.W.mg_of X G a3
  have F_span_at := fun_mk (st := s_span_at) l4 c4 k4
  have b_span_at := F_span_at.binds (ps := ["file", "path"]) fun _ _ _ _ _ _ us hl => match us, hl with | [_, _], _ => rfl
  have m_span_at := PySem.W.mg_of X G a4
  have F_place_behind := fun_mk (st := s_place_behind) l5 c5 k5
  have b_place_behind := F_place_behind.binds (ps := ["file", "at", "step"]) fun _ _ _ _ _ _ us hl => match us, hl with | [_, _, _], _ => rfl
  have m_place_behind := PySem.W.mg_of X G a5
  have F_codes_of := fun_mk (st := s_codes_of) l6 c6 k6
  have b_codes_of := F_codes_of.binds (ps := ["name"]) fun _ _ _ _ _ _ us hl => match us, hl with | [_], _ => rfl
  have m_codes_of := PySem.W.mg_of X G a6
  have F_arm_part := fun_mk (st := s_arm_part) l7 c7 k7
  have b_arm_part := F_arm_part.binds (ps := ["file", "at"]) fun _ _ _ _ _ _ us hl => match us, hl with | [_, _], _ => rfl
  have m_arm_part := PySem.W.mg_of X G a7
  have F_room_parts := fun_mk (st := s_room_parts) l8 c8 k8
  have b_room_parts := F_room_parts.binds (ps := ["file", "at"]) fun _ _ _ _ _ _ us hl => match us, hl with | [_, _], _ => rfl
  have m_room_parts := PySem.W.mg_of X G a8
  have F_behind_label := fun_mk (st := s_behind_label) l9 c9 k9
  have b_behind_label := F_behind_label.binds (ps := ["file", "at", "sort"]) fun _ _ _ _ _ _ us hl => match us, hl with | [_, _, _], _ => rfl
  have m_behind_label := PySem.W.mg_of X G a9
  have F_label_at := fun_mk (st := s_label_at) l10 c10 k10
  have b_label_at := F_label_at.binds (ps := ["file", "at", "sort"]) fun _ _ _ _ _ _ us hl => match us, hl with | [_, _, _], _ => rfl
  have m_label_at := PySem.W.mg_of X G a10
  have F_behind_item := fun_mk (st := s_behind_item) l11 c11 k11
  have b_behind_item := F_behind_item.binds (ps := ["file", "at"]) fun _ _ _ _ _ _ us hl => match us, hl with | [_, _], _ => rfl
  have m_behind_item := PySem.W.mg_of X G a11
  have F_bundled := fun_mk (st := s_bundled) l12 c12 k12
  have b_bundled := F_bundled.binds (ps := ["files"]) fun _ _ _ _ _ _ us hl => match us, hl with | [_], _ => rfl
  have m_bundled := PySem.W.mg_of X G a12
  have F_nth := fun_mk (st := s_nth) l13 c13 k13
  have b_nth := F_nth.binds (ps := ["bundle", "k"]) fun _ _ _ _ _ _ us hl => match us, hl with | [_, _], _ => rfl
  have m_nth := PySem.W.mg_of X G a13
  have F_cut := fun_mk (st := s_cut) l14 c14 k14
  have b_cut := F_cut.binds (ps := ["bundle", "first", "end"]) fun _ _ _ _ _ _ us hl => match us, hl with | [_, _, _], _ => rfl
  have m_cut := PySem.W.mg_of X G a14
  have F_bundle_of := fun_mk (st := s_bundle_of) l15 c15 k15
  have b_bundle_of := F_bundle_of.binds (ps := ["room"]) fun _ _ _ _ _ _ us hl => match us, hl with | [_], _ => rfl
  have m_bundle_of := PySem.W.mg_of X G a15
  have F_law_feed := fun_mk (st := s_law_feed) l16 c16 k16
  have b_law_feed := F_law_feed.binds (ps := ["_law_script", "_law_k"]) fun _ _ _ _ _ _ us hl => match us, hl with | [_, _], _ => rfl
  have m_law_feed := PySem.W.mg_of X G a16
  have F_law_draw := fun_mk (st := s_law_draw) l17 c17 k17
  have b_law_draw := F_law_draw.binds (ps := ["_law_feed_here", "_law_many"]) fun _ _ _ _ _ _ us hl => match us, hl with | [_, _], _ => rfl
  have m_law_draw := PySem.W.mg_of X G a17
  have F_law_name := fun_mk (st := s_law_name) l18 c18 k18
  have b_law_name := F_law_name.binds (ps := ["_law_feed_here"]) fun _ _ _ _ _ _ us hl => match us, hl with | [_], _ => rfl
  have m_law_name := PySem.W.mg_of X G a18
  have F_law_number := fun_mk (st := s_law_number) l19 c19 k19
  have b_law_number := F_law_number.binds (ps := ["_law_feed_here"]) fun _ _ _ _ _ _ us hl => match us, hl with | [_], _ => rfl
  have m_law_number := PySem.W.mg_of X G a19
  have F_law_whole := fun_mk (st := s_law_whole) l20 c20 k20
  have b_law_whole := F_law_whole.binds (ps := ["_law_feed_here"]) fun _ _ _ _ _ _ us hl => match us, hl with | [_], _ => rfl
  have m_law_whole := PySem.W.mg_of X G a20
  have F_law_text := fun_mk (st := s_law_text) l21 c21 k21
  have b_law_text := F_law_text.binds (ps := ["_law_feed_here"]) fun _ _ _ _ _ _ us hl => match us, hl with | [_], _ => rfl
  have m_law_text := PySem.W.mg_of X G a21
  have F_law_item := fun_mk (st := s_law_item) l22 c22 k22
  have b_law_item := F_law_item.binds (ps := ["_law_feed_here", "_law_deep"]) fun _ _ _ _ _ _ us hl => match us, hl with | [_, _], _ => rfl
  have m_law_item := PySem.W.mg_of X G a22
  have F_law_long := fun_mk (st := s_law_long) l23 c23 k23
  have b_law_long := F_law_long.binds (ps := ["_law_n"]) fun _ _ _ _ _ _ us hl => match us, hl with | [_], _ => rfl
  have m_law_long := PySem.W.mg_of X G a23
  have F_law_key := fun_mk (st := s_law_key) l24 c24 k24
  have b_law_key := F_law_key.binds (ps := ["_law_key_here"]) fun _ _ _ _ _ _ us hl => match us, hl with | [_], _ => rfl
  have m_law_key := PySem.W.mg_of X G a24
  have F_law_packed := fun_mk (st := s_law_packed) l25 c25 k25
  have b_law_packed := F_law_packed.binds (ps := ["_law_item_here"]) fun _ _ _ _ _ _ us hl => match us, hl with | [_], _ => rfl
  have m_law_packed := PySem.W.mg_of X G a25
  have F_law_word := fun_mk (st := s_law_word) l26 c26 k26
  have b_law_word := F_law_word.binds (ps := ["_law_bundle", "_law_some"]) fun _ _ _ _ _ _ us hl => match us, hl with | [_, _], _ => rfl
  have m_law_word := PySem.W.mg_of X G a26
  have F_law := fun_mk (st := s_law) l27 c27 k27
  have m : Bn mg := ⟨PySem.W.mg_none_of X G z_len, PySem.W.mg_none_of X G z_ord, PySem.W.mg_none_of X G z_max, PySem.W.mg_none_of X G z_sorted, PySem.W.mg_none_of X G z_isinstance, PySem.W.mg_none_of X G z_tuple, PySem.W.mg_none_of X G z_list, PySem.W.mg_none_of X G z_set, PySem.W.mg_none_of X G z_int, PySem.W.mg_none_of X G z_str, PySem.W.mg_none_of X G z_bool, PySem.W.mg_none_of X G z_range, PySem.W.mg_none_of X G z_zip, PySem.W.mg_none_of X G z_reversed, PySem.W.mg_none_of X G z_enumerate, PySem.W.mg_none_of X G z_sum⟩
  have J_i := fun_mk (st := s_NoPlace_init) lJ cJ kJ
  have bi := J_i.binds (ps := ["self", "step"]) fun _ _ _ _ _ _ us hl => match us, hl with | [_, _], _ => rfl
  have om := xok_of (as := []) xm
  have on := xok_of (as := [M]) xn
  have mk : XMk K C gi := ⟨on.made, iC, fJ, on.kp⟩
  have xx : Exs K M C [c1_, c2_, c3_, c4_, c5_, c6_, c7_, c8_, c9_] := ⟨om.xc, on.xc, on.up, kit_self, on.ve, xy, on.no⟩
  have so : SortsOk K aS := ⟨⟨_, _, _, lSo, rfl, rfl, rfl, (by show 6 ≤ sizeLine; decide), .cons ⟨_, rfl⟩ (.cons ⟨_, rfl⟩ (.cons ⟨_, rfl⟩ (.cons ⟨_, rfl⟩ (.cons ⟨_, rfl⟩ (.cons ⟨_, rfl⟩ .nil)))))⟩⟩
  have x_SORTS := PySem.W.mg_of X G aSo
  have x_STEPS := PySem.W.mg_of X G aSt
  have st : StepsOk K w aT := ⟨⟨⟨esT, nT, lSt, kSt⟩⟩, ⟨_, bR, ⟨_, rfl⟩⟩⟩
  refine ⟨PySem.W.fnOf "law" "law" (defArgs s_law) (defBody s_law) (defScope s_law) .none kV27 dc27 pm27 an27 cd27 ct27, fun s v => .of_eq rfl, fun base _ _ => ?_⟩
  have g_long : Fn l.prog w K mg base 1 "long_of" ["n"] spLong := ⟨_, _, ok_long F_long_of m, b_long_of, F_long_of.kp, m_long_of⟩
  have g_bl : Fn l.prog w K mg base 1 "behind_long" ["file", "at"] (spBL K) := ⟨_, _, ok_bl F_behind_long, b_behind_long, F_behind_long.kp, m_behind_long⟩
  have g_la : Fn l.prog w K mg base 2 "long_at" ["file", "at"] (spLA K) := ⟨_, _, ok_la F_long_at m g_bl, b_long_at, F_long_at.kp, m_long_at⟩
  have g_bi : Fn l.prog w K mg base 3 "behind_item" ["file", "at"] (spBI K) := ⟨_, _, ok_bi F_behind_item so x_SORTS g_bl g_la, b_behind_item, F_behind_item.kp, m_behind_item⟩
  have g_lat : Fn l.prog w K mg base 1 "label_at" ["file", "at", "sort"] spNone := ⟨_, _, ok_label_at F_label_at, b_label_at, F_label_at.kp, m_label_at⟩
  have g_cod : Fn l.prog w K mg base 1 "codes_of" ["name"] spNone := ⟨_, _, ok_codes_of F_codes_of, b_codes_of, F_codes_of.kp, m_codes_of⟩
  have g_arm : Fn l.prog w K mg base 1 "arm_part" ["file", "at"] spNone := ⟨_, _, ok_arm_part F_arm_part, b_arm_part, F_arm_part.kp, m_arm_part⟩
  have g_blb : Fn l.prog w K mg base 3 "behind_label" ["file", "at", "sort"] spBLb := ⟨_, _, ok_behind_label F_behind_label g_bl g_la, b_behind_label, F_behind_label.kp, m_behind_label⟩
  have g_rp : Fn l.prog w K mg base 4 "room_parts" ["file", "at"] (spRP K) := ⟨_, _, ok_room_parts F_room_parts m so x_SORTS g_bl g_la g_bi g_blb g_lat, b_room_parts, F_room_parts.kp, m_room_parts⟩
  have g_pb : Fn l.prog w K mg base 5 "place_behind" ["file", "at", "step"] (spPB K) := ⟨_, _, ok_place_behind F_place_behind so x_SORTS st x_STEPS g_rp g_cod g_arm, b_place_behind, F_place_behind.kp, m_place_behind⟩
  have f_i : FnOk l.prog w K mg base CX0 1 gi _ ["self", "step"] (spInit C) := ok_init J_i on.xc on.no
  have x_NP := PySem.W.mg_of X G aC
  have g_sa : FnX l.prog w K mg base 6 "span_at" ["file", "path"] (spSA K C) := ⟨_, _, ok_span_at F_span_at m g_pb g_bi on.xc mk f_i x_NP bi, b_span_at, F_span_at.kp, m_span_at⟩
  have g_nth : FnX l.prog w K mg base 7 "nth" ["bundle", "k"] (spNth K C) := ⟨_, _, ok_nth F_nth m g_sa, b_nth, F_nth.kp, m_nth⟩
  have g_bo : Fn l.prog w K mg base 2 "bundle_of" ["room"] (spBO K) := ⟨_, _, ok_bundle_of F_bundle_of m so x_SORTS g_long, b_bundle_of, F_bundle_of.kp, m_bundle_of⟩
  have g_bd : Fn l.prog w K mg base 3 "bundled" ["files"] (spBd K) := ⟨_, _, ok_bundled F_bundled g_bo, b_bundled, F_bundled.kp, m_bundled⟩
  have g_cut : FnX l.prog w K mg base 5 "cut" ["bundle", "first", "end"] (spCut K C) := ⟨_, _, ok_cut F_cut m g_rp g_bo on.xc mk f_i x_NP bi, b_cut, F_cut.kp, m_cut⟩
  have g_llo : Fn l.prog w K mg base 1 "_law_long" ["_law_n"] spLong := ⟨_, _, ok_llong F_law_long m, b_law_long, F_law_long.kp, m_law_long⟩
  have g_lke : Fn l.prog w K mg base 2 "_law_key" ["_law_key_here"] (spKey K) := ⟨_, _, ok_law_key F_law_key m g_llo, b_law_key, F_law_key.kp, m_law_key⟩
  have g_lpa : Fn l.prog w K mg base 13 "_law_packed" ["_law_item_here"] (spLPack K (9 + 1)) := ⟨_, _, ok_law_packed F_law_packed m b_law_packed m_law_packed g_llo g_lke 10, b_law_packed, F_law_packed.kp, m_law_packed⟩
  have gf : Fn l.prog w K mg base 1 "_law_feed" ["_law_script", "_law_k"] (spFeed K) := ⟨_, _, ok_feed F_law_feed m, b_law_feed, F_law_feed.kp, m_law_feed⟩
  have gr : Fn l.prog w K mg base 1 "_law_draw" ["_law_feed_here", "_law_many"] spDraw := ⟨_, _, ok_draw F_law_draw, b_law_draw, F_law_draw.kp, m_law_draw⟩
  have gn : Fn l.prog w K mg base 2 "_law_name" ["_law_feed_here"] (spStrD nameOk) := ⟨_, _, ok_name F_law_name m gr, b_law_name, F_law_name.kp, m_law_name⟩
  have gt : Fn l.prog w K mg base 2 "_law_text" ["_law_feed_here"] (spStrD textOk) := ⟨_, _, ok_text F_law_text m gr, b_law_text, F_law_text.kp, m_law_text⟩
  have gu : Fn l.prog w K mg base 2 "_law_number" ["_law_feed_here"] (spIntD fun n => 1 ≤ n ∧ n ≤ 999) := ⟨_, _, ok_number F_law_number m gr, b_law_number, F_law_number.kp, m_law_number⟩
  have gw : Fn l.prog w K mg base 2 "_law_whole" ["_law_feed_here"] (spIntD fun n => -1000000000000000000 ≤ n ∧ n ≤ 1000000000000000000) := ⟨_, _, ok_whole F_law_whole m gr, b_law_whole, F_law_whole.kp, m_law_whole⟩
  have git : Fn l.prog w K mg base 7 "_law_item" ["_law_feed_here", "_law_deep"] (fun vs H Q E => ∃ d, d ≤ 5 ∧ spI K Gd d vs H Q E) := ⟨_, _, FnOk.any (C := fun d => d ≤ 5) fun d hd => (ok_item F_law_item m b_law_item m_law_item gr gn gt gu gw d).mono (by omega), b_law_item, F_law_item.kp, m_law_item⟩
  have g_wd : Fn l.prog w K mg base 8 "_law_word" ["_law_bundle", "_law_some"] (spWord K) := ⟨_, _, ok_word F_law_word m (PySem.W.mg_none_of X G zv) xx g_nth g_cut (PySem.W.mg_of X G aM) x_NP (PySem.W.mg_of X G aC1) (PySem.W.mg_of X G aC2) (PySem.W.mg_of X G aC3) (PySem.W.mg_of X G aC4) (PySem.W.mg_of X G aC5) (PySem.W.mg_of X G aC6) (PySem.W.mg_of X G aC7) (PySem.W.mg_of X G aC8) (PySem.W.mg_of X G aC9), b_law_word, F_law_word.kp, m_law_word⟩
  exact ok_law F_law m gf gr git g_lpa g_bd g_wd
theorem walk {l : PySem.W.OpenLaw} {q : Program} {loose : List Str} {XP : (Str → Option Value) → Heap → Prop} {YP : World → Heap → Prop} {d : DefRec} {K : Params → PySem.W.Frag} (hn : l.most = some 63) (hdf : d.params.defaults = [])
    (hY : ∀ (w : World) (h : Heap), YP w h → (K w.params).In h)
    (F : ∀ (w : World) (mg : Str → Option Value) (fa : Addr) (h : Heap), (K w.params).In h → h.Ns mainGlobals mg → mg d.name = some (.ref fa) →
      ∃ fd : FuncData, (∀ (s : Shared) (u : Value), BindsTo s fd ⟨[u], []⟩ [("_law_script", u)]) ∧ ∀ base : Heap, (K w.params).In base → base.Ns mainGlobals mg → FnOk l.prog w (K w.params) mg base CX0 28 fa fd ["_law_script"] (spLaw (K w.params))) :
    PySem.W.WalkO q loose XP YP l.row.toRowW d [] (fun f vs => PySem.call f vs) :=
  L2.walk_of (n := 63) (k := 28) (x := "_law_script") (CX := fun _ => CX0) (sp := fun w => spLaw (K w.params)) hn (by decide) hdf ⟨rfl, by decide, by decide⟩ hY F (fun _ _ a ns hl _ hS => ⟨a, ns, rfl, hS, hl, fun _ => rfl⟩) fun _ _ _ _ _ z => z
end K10
open PySem PySem.W PyProof.Rows
set_option maxRecDepth 100000 in
set_option maxHeartbeats 0 in
theorem PySem.Challenge.cw_makes_k10_numbers_beyond_a_bundle_holds : PySem.Challenge.rw_makes_k10_numbers_beyond_a_bundle.Holds := by
  w_on; o_law
  refine holds_open (q := K10.viewK) (loose := K10.looseK) (XP := XL K10.viewK []) (YP := Hook.says (PySem.W.kHook K10.heapK K10.asK K10.asK_eq)) (N := 7162)
    K10.leftK (Hook.of (PySem.W.kHook K10.heapK K10.asK K10.asK_eq)) (Hook.keeps (PySem.W.kHook K10.heapK K10.asK K10.asK_eq)) (fun s e => xl_of s (Bool.and_eq_true_iff.mp e).1)
    XL.keeps (by rfl) (by rfl) (by rfl) (fun s e => recFacts_of (Bool.and_eq_true_iff.mp e).2) (by rfl) (by assumption)
    (by decide +kernel) ⟨rfl, rfl, rfl, rfl, rfl, by decide +kernel⟩ ?hw ?hc
  case hw => w_witness2
  k_fill
  refine K10.walk (l := PySem.Challenge.rw_makes_k10_numbers_beyond_a_bundle) rfl rfl (fun w h Y => PySem.W.kIn_of Y) ?F
  case F =>
    intro w mg fa h KX G hmg
    refine' K10.all_mk KX G hmg ?a1 ?l1 ?c1 ?k1 ?a2 ?l2 ?c2 ?k2 ?a3 ?l3 ?c3 ?k3 ?a4 ?l4 ?c4 ?k4 ?a5 ?l5 ?c5 ?k5 ?a6 ?l6 ?c6 ?k6 ?a7 ?l7 ?c7 ?k7 ?a8 ?l8 ?c8 ?k8 ?a9 ?l9 ?c9 ?k9 ?a10 ?l10 ?c10 ?k10 ?a11 ?l11 ?c11 ?k11 ?a12 ?l12 ?c12 ?k12 ?a13 ?l13 ?c13 ?k13 ?a14 ?l14 ?c14 ?k14 ?a15 ?l15 ?c15 ?k15 ?a16 ?l16 ?c16 ?k16 ?a17 ?l17 ?c17 ?k17 ?a18 ?l18 ?c18 ?k18 ?a19 ?l19 ?c19 ?k19 ?a20 ?l20 ?c20 ?k20 ?a21 ?l21 ?c21 ?k21 ?a22 ?l22 ?c22 ?k22 ?a23 ?l23 ?c23 ?k23 ?a24 ?l24 ?c24 ?k24 ?a25 ?l25 ?c25 ?k25 ?a26 ?l26 ?c26 ?k26 ?a27 ?l27 ?c27 ?k27 ?aM ?aC ?aC1 ?aC2 ?aC3 ?aC4 ?aC5 ?aC6 ?aC7 ?aC8 ?aC9 ?iC ?lJ ?cJ ?kJ ?fJ ?xm ?xn ?xy ?zv ?aSo ?lSo ?aSt ?lSt ?kSt ?bR ?z_len ?z_ord ?z_max ?z_sorted ?z_isinstance ?z_tuple ?z_list ?z_set ?z_int ?z_str ?z_bool ?z_range ?z_zip ?z_reversed ?z_enumerate ?z_sum
    (case aM => k_is); (case aC => k_is); (case aC1 => k_is); (case aC2 => k_is); (case aC3 => k_is); (case aC4 => k_is); (case aC5 => k_is); (case aC6 => k_is); (case aC7 => k_is); (case aC8 => k_is); (case aC9 => k_is)
    (case iC => k_is); (case lJ => k_is); (case cJ => k_is); (case kJ => k_is); (case fJ => k_is); (case zv => k_is)
    (case xm => kernel_rfl); (case xn => kernel_rfl); (case xy => kernel_rfl)
    (case a1 => k_is); (case l1 => k_is); (case c1 => k_is); (case k1 => k_is)
    (case a2 => k_is); (case l2 => k_is); (case c2 => k_is); (case k2 => k_is)
    (case a3 => k_is); (case l3 => k_is); (case c3 => k_is); (case k3 => k_is)
    (case a4 => k_is); (case l4 => k_is); (case c4 => k_is); (case k4 => k_is)
    (case a5 => k_is); (case l5 => k_is); (case c5 => k_is); (case k5 => k_is)
    (case a6 => k_is); (case l6 => k_is); (case c6 => k_is); (case k6 => k_is)
    (case a7 => k_is); (case l7 => k_is); (case c7 => k_is); (case k7 => k_is)
    (case a8 => k_is); (case l8 => k_is); (case c8 => k_is); (case k8 => k_is)
    (case a9 => k_is); (case l9 => k_is); (case c9 => k_is); (case k9 => k_is)
    (case a10 => k_is); (case l10 => k_is); (case c10 => k_is); (case k10 => k_is)
    (case a11 => k_is); (case l11 => k_is); (case c11 => k_is); (case k11 => k_is)
    (case a12 => k_is); (case l12 => k_is); (case c12 => k_is); (case k12 => k_is)
    (case a13 => k_is); (case l13 => k_is); (case c13 => k_is); (case k13 => k_is)
    (case a14 => k_is); (case l14 => k_is); (case c14 => k_is); (case k14 => k_is)
    (case a15 => k_is); (case l15 => k_is); (case c15 => k_is); (case k15 => k_is)
    (case a16 => k_is); (case l16 => k_is); (case c16 => k_is); (case k16 => k_is)
    (case a17 => k_is); (case l17 => k_is); (case c17 => k_is); (case k17 => k_is)
    (case a18 => k_is); (case l18 => k_is); (case c18 => k_is); (case k18 => k_is)
    (case a19 => k_is); (case l19 => k_is); (case c19 => k_is); (case k19 => k_is)
    (case a20 => k_is); (case l20 => k_is); (case c20 => k_is); (case k20 => k_is)
    (case a21 => k_is); (case l21 => k_is); (case c21 => k_is); (case k21 => k_is)
    (case a22 => k_is); (case l22 => k_is); (case c22 => k_is); (case k22 => k_is)
    (case a23 => k_is); (case l23 => k_is); (case c23 => k_is); (case k23 => k_is)
    (case a24 => k_is); (case l24 => k_is); (case c24 => k_is); (case k24 => k_is)
    (case a25 => k_is); (case l25 => k_is); (case c25 => k_is); (case k25 => k_is)
    (case a26 => k_is); (case l26 => k_is); (case c26 => k_is); (case k26 => k_is)
    (case a27 => k_is); (case l27 => k_is); (case c27 => k_is); (case k27 => k_is)
    (case aSo => k_is); (case lSo => k_is); (case aSt => k_is); (case lSt => k_is); (case kSt => k_keys); (case bR => k_is)
    (case z_len => k_is); (case z_ord => k_is); (case z_max => k_is); (case z_sorted => k_is); (case z_isinstance => k_is); (case z_tuple => k_is); (case z_list => k_is); (case z_set => k_is); (case z_int => k_is); (case z_str => k_is); (case z_bool => k_is); (case z_range => k_is); (case z_zip => k_is); (case z_reversed => k_is); (case z_enumerate => k_is); (case z_sum => k_is)
