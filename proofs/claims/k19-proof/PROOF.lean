import PyProof.Rows.All
import Wide.All
import OpenK.AllK
import Wide.FinOn
import Lean
import PyProof.EqAt
import PyProof.EqKinds
import PyProof.NeKinds
import PyProof.TupleCall
import PyProof.Rows.SetFrom
import PyProof.CollectWalk
import PyProof.DictIter
import PyProof.Rows.SortShell
import KE.KDictSum
import PyProof.Rows.SortStr
import PyProof.ZipIter
import KE.KItemsList
import PyProof.Rows.SumAny
import PyProof.Rows.StrJoin2
import PyProof.Rows.ZipGen
import PyProof.ConsumeWalk
import PyProof.FString5
import PyProof.StrOps2
import PyProof.StrWalks
import PyProof.FactsAll.dict
import PyProof.TupleOps
import KE.KRevIter
import PyProof.ListNew
import PyProof.TupleOfGen
import PyProof.Rows.SeqMore
import PyProof.MeetsSeq2
import PyProof.FactsAll.tuple
import PyProof.FactsAll.list
import OpenK.KTop
import KE.KIsAll
import PyProof.Draws
import PyProof.EnumMake
import PyProof.EnumFor
import PyProof.AutoSeq1
import PyProof.ListRange
import PyProof.StationsW
import PyProof.RulesAs
import PyProof.ExcClass2
import PyProof.Ns1
import PyProof.NsCount
import PyProof.Slots
import PyProof.ExcArgs
import OpenK.KDescr
import OpenK.KMake
import PyProof.InstStoreFacts
import PyProof.ExcBaseAll.ValueError
import OpenK.KOwn
import PyProof.NsDelKeeps
import PyProof.StrBlockG
import PyProof.AutoListH
import PyProof.DictIter
import PyProof.DictWalks
import PyProof.FactsAll.set
import PyProof.Rows.ListMul
import PyProof.SetRoads
import PyProof.ZipIter
import PySem.Challenge.RW_makes_k19_shapes_by_kind
set_option Elab.async false
set_option linter.all false
set_option maxRecDepth 100000
namespace L2
open PySem PySem.Spec PyProof.Rows
def inClass (s : Stmt) (j : Nat) : Stmt := match s with
  | .ClassDef _ _ _ body _ _ _ _ _ _ _ => body.getD j (.Pass ⟨0, 0, 0, 0⟩)
  | _ => .Pass ⟨0, 0, 0, 0⟩
def defArgs (s : Stmt) : Arguments := match s with
  | .FunctionDef _ a _ _ _ _ _ _ _ _ => a
  | _ => { posonlyargs := [], args := [], vararg := none, kwonlyargs := [], kw_defaults := [], kwarg := none, defaults := [] }
def defBody (s : Stmt) : List Stmt := match s with
  | .FunctionDef _ _ b _ _ _ _ _ _ _ => b
  | _ => []
def defScope (s : Stmt) : Scope := match s with
  | .FunctionDef _ _ _ _ _ _ sc _ _ _ => sc
  | _ => { kind := .function, names := [], isGenerator := false, isCoroutine := false }
end L2
namespace K19
open PySem PySem.Spec PyProof.Rows
def top (i : Nat) : Stmt := PySem.Challenge.pw_makes_k19_shapes_by_kind.main.body.getD i (.Pass ⟨0, 0, 0, 0⟩)
end K19
namespace L2
open PySem PySem.W PySem.Calls PyProof.Rows
section
variable {tb : String → Option Builtin} {p : Program} {w : World} {m : Nat} {a : Option Value}
def runT (tb : String → Option Builtin) (p : Program) (w : World) (m : Nat) (a : Option Value) : Nat → SharedT → Thread → Option SharedT
  | 0, _, _ => none
  | k + 1, s, t => bif through t then some s else bif stepOk m a t then (match stepT (denote tb) p w s t with | some (s', t') => runT tb p w m a k s' t' | none => none) else none
theorem runT_of : ∀ {k : Nat} {s s' : SharedT} {t : Thread}, runT tb p w m a k s t = some s' → topRun tb p w m a k s.abs t = some s'.abs
  | 0, _, _, _, h => by cases h
  | k + 1, s, s', t, h => by
    unfold runT at h
    unfold topRun
    cases ht : through t with
    | true => rw [ht] at h; cases h; rfl
    | false =>
      rw [ht] at h
      cases hk : stepOk m a t with
      | false => rw [hk] at h; cases h
      | true =>
        rw [hk] at h
        cases hs : stepT (denote tb) p w s t with
        | none => rw [hs] at h; cases h
        | some r =>
          obtain ⟨s₂, t₂⟩ := r
          rw [hs] at h
          rw [stepT_spec hs]
          exact runT_of h
end
def mkT : List Obj → Nat → BT → BT
  | [], _, t => t
  | o :: l, i, t => mkT l (i + 1) (t.ins i o)
noncomputable abbrev boot0 (w : World) (os : OsState) : Shared := ⟨boot_heap w.params, Array.mk [], boot_drawn, boot_toks, os⟩
noncomputable abbrev bootT (w : World) (os : OsState) : SharedT := ⟨mkT (boot_heap w.params).objs.toList 0 .nil, (boot_heap w.params).objs.size, (boot_heap w.params).life, Array.mk [], boot_drawn, boot_toks, os⟩
theorem boot_abs (w : World) (os : OsState) : (bootT w os).abs = boot0 w os := by kernel_rfl
noncomputable abbrev goT (p : Program) (N : Nat) (w : World) (os : OsState) : Option SharedT := runT treeTable p w (boot_heap w.params).objs.size ((boot_heap w.params).nsMap mainGlobals "__annotations__") N (bootT w os) (topStub p)
noncomputable abbrev chkT (p : Program) (w : World) (s : Shared) : Bool := staticsOk (importedModules p.main.body) (boot_heap w.params) s.heap && namesBound p s.heap && gensDone s && laidKept (boot_heap w.params) s.heap
theorem ns_ok (w : World) : ((boot_heap w.params).isNs mainGlobals && (Array.mk [] : Array GenState).size == 0) = true := by kernel_rfl
theorem map_abs {α : Type _} {o : Option SharedT} {f : Shared → α} {r : α} (h : (o.map fun s => f s.abs) = some r) : ∃ s, o = some s ∧ f s.abs = r := by
  obtain ⟨s, e, q⟩ := Option.map_eq_some_iff.mp h
  exact ⟨s, e, q⟩
theorem top_of {α β : Type} {p : Program} {N : Nat} {w : World} {os : OsState} {f : Shared → α} {g : Shared → β} {x : α} {y : β} (h1 : ((goT p N w os).map fun s => chkT p w s.abs) = some true)
    (h2 : ((goT p N w os).map fun s => f s.abs) = some x) (h3 : ((goT p N w os).map fun s => g s.abs) = some y) :
    (topFrom treeTable p w N (boot0 w os)).map (fun s => (f s, g s)) = some (x, y) := by
  obtain ⟨s, e, c⟩ := map_abs h1
  obtain ⟨s2, e2, c2⟩ := map_abs h2
  obtain ⟨s3, e3, c3⟩ := map_abs h3
  rw [e] at e2 e3
  cases e2
  cases e3
  have r := runT_of e
  rw [boot_abs] at r
  unfold topFrom
  rw [show ((boot0 w os).heap.isNs mainGlobals && (boot0 w os).gens.size == 0) = true from ns_ok w]
  show Option.map _ (Option.bind (topRun treeTable p w (boot_heap w.params).objs.size ((boot_heap w.params).nsMap mainGlobals "__annotations__") N (boot0 w os) (topStub p)) _) = _
  rw [r]
  show Option.map _ (match chkT p w s.abs with | true => some s.abs | false => none) = _
  rw [c]
  show some (f s.abs, g s.abs) = _
  rw [c2, c3]
end L2
namespace K19
open PySem PySem.Spec PyProof.Rows L2
def viewK : Program := { PySem.Challenge.pw_makes_k19_shapes_by_kind with main := { PySem.Challenge.pw_makes_k19_shapes_by_kind.main with body := [top 1, top 2, top 3, top 4, top 5, top 6, top 7, top 8, top 9, top 10, top 12, top 13, top 14, top 15, top 16, top 17, top 18, top 19, top 20, top 21, top 23, top 24, top 25, top 26, top 27, top 28, top 29, top 30, top 31, top 32, top 33, top 34, top 35, top 36, top 37, top 38, top 39, top 40, top 41, top 42] } }
def looseK : List Str := []
abbrev en (P : Params) (x : Str) (t : Tok) (v : Value) : DictEntry := ⟨PyData.keyHash P x, .str x t, v⟩
abbrev fo (cls : Value) (nm q : Str) (s : Stmt) (kw doc pm : Value) (an : Option Addr) (cd ct : Value) (sl : Array (Option Value)) : Obj := ⟨cls, none, .func (PySem.W.fnOf nm q (L2.defArgs s) (L2.defBody s) (L2.defScope s) .none kw doc pm an cd ct), sl⟩
abbrev fn (nm q : Str) (s : Stmt) (md : Str) (t : Nat) (c : Addr) : Obj := fo (.type "function") nm q s .none .none (.str md t) .none (.ref c) .none #[]
abbrev cd (x : Str) (a : Nat) (q : Str) (b c : Nat) (l k : Int) (r1 r2 r3 r4 r5 : Addr) (e f : Int) (g : Nat) : Obj := ⟨.type "code", .none, .fields #[.str x a, .str q b, .str "/claim/cut.py" c, .int l 0, .int k 0, .int 0 0, .int 0 0, .int 3 0, .ref r1, .bool Bool.true, .int 181 0, .ref r2, .none, .ref r3, .ref r4, .ref r5, .int e 0, .int f 0, .str "/claim/cut.py" g], #[]⟩
noncomputable def heapK : Params → PySem.W.Frag := fun P =>
  (nat_lit 3, ⟨.type "dict", .none, .dict #[en P "__name__" 165 (.str "law_makes_k19_shapes_by_kind" 296), en P "__doc__" 166 (.none), en P "__package__" 167 (.none), en P "__loader__" 168 (.builtin "__main__.__loader__#opaque"), en P "__spec__" 169 (.none), en P "__annotations__" 170 (.ref 6), en P "__builtins__" 171 (.ref 4), en P "__file__" 173 (.str "/claim/cut.py" 172), en P "__cached__" 174 (.none), en P "LETTERS" 190 (.str "abcdefghijklmnopqrstuvwxyz" 189), en P "GREATEST_WHOLE" 192 (.int 1000000000000000000 191), en P "GREATEST_NUMBER" 194 (.int 999 193), en P "LONGEST_TEXT" 196 (.int 200 195), en P "LONGEST_NAME" 198 (.int 8 197), en P "is_whole" 207 (.ref 21), en P "is_item_whole" 214 (.ref 28), en P "is_number" 221 (.ref 35), en P "is_name" 227 (.ref 40), en P "rises" 233 (.ref 45), en P "MOST_PARTS" 237 (.int 20 236), en P "MOST_FIELDS" 239 (.int 8 238), en P "is_shape" 247 (.ref 52), en P "are_bounds" 255 (.ref 59), en P "are_members" 261 (.ref 64), en P "is_struck" 267 (.ref 69), en P "is_short_tuple" 274 (.ref 76), en P "is_field" 281 (.ref 83), en P "is_default" 288 (.ref 90), en P "is_arm" 295 (.ref 97), en P "_law_feed" 304 (.ref 104), en P "_law_draw" 316 (.ref 111), en P "_law_is_name" 322 (.ref 116), en P "_law_whole" 331 (.ref 123), en P "_law_rise" 337 (.ref 128), en P "_law_names" 343 (.ref 133), en P "_law_numbers" 349 (.ref 138), en P "_law_plain_shape" 360 (.ref 145), en P "_law_plain_value" 368 (.ref 152), en P "_law_struck" 374 (.ref 157), en P "_law_parts" 389 (.ref 164), en P "_law_make" 395 (.ref 169), en P "_law_odd" 404 (.ref 176), en P "_law_bent" 414 (.ref 183), en P "_law_is_part" 422 (.ref 190), en P "_law_are_parts" 428 (.ref 195), en P "_law_is_shape" 434 (.ref 200), en P "_law_asked" 443 (.ref 207), en P "_law_many" 449 (.ref 212), en P "law" 455 (.ref 217)] 49, #[]⟩) ::
  (nat_lit 20, cd "is_whole" 199 "is_whole" 200 201 7 3 15 16 17 18 19 205 7 206) ::
  (nat_lit 21, fn "is_whole" "is_whole" (top 6) "makes.items" 187 20) ::
  (nat_lit 27, cd "is_item_whole" 208 "is_item_whole" 209 210 9 1 22 23 24 25 26 212 9 213) ::
  (nat_lit 28, fn "is_item_whole" "is_item_whole" (top 7) "makes.items" 187 27) ::
  (nat_lit 34, cd "is_number" 215 "is_number" 216 217 11 1 29 30 31 32 33 219 11 220) ::
  (nat_lit 35, fn "is_number" "is_number" (top 8) "makes.items" 187 34) ::
  (nat_lit 39, ⟨.type "code", .none, .fields #[.str "is_name" 222, .str "is_name" 223, .str "/claim/cut.py" 224, .int 13 0, .int 1 0, .int 0 0, .int 0 0, .int 3 0, .ref 36, .bool Bool.true, .int 181 0, .ref 37, .none, .none, .none, .ref 38, .int 225 0, .int 13 0, .str "/claim/cut.py" 226], #[]⟩) ::
  (nat_lit 40, fn "is_name" "is_name" (top 9) "makes.items" 187 39) ::
  (nat_lit 44, ⟨.type "code", .none, .fields #[.str "rises" 228, .str "rises" 229, .str "/claim/cut.py" 230, .int 17 0, .int 1 0, .int 0 0, .int 0 0, .int 3 0, .ref 41, .bool Bool.true, .int 181 0, .ref 42, .none, .none, .none, .ref 43, .int 231 0, .int 17 0, .str "/claim/cut.py" 232], #[]⟩) ::
  (nat_lit 45, fn "rises" "rises" (top 10) "makes.items" 187 44) ::
  (nat_lit 51, cd "is_shape" 240 "is_shape" 241 242 22 1 46 47 48 49 50 245 22 246) ::
  (nat_lit 52, fn "is_shape" "is_shape" (top 14) "makes.shapes" 234 51) ::
  (nat_lit 58, cd "are_bounds" 248 "are_bounds" 249 250 39 2 53 54 55 56 57 253 39 254) ::
  (nat_lit 59, fn "are_bounds" "are_bounds" (top 15) "makes.shapes" 234 58) ::
  (nat_lit 63, ⟨.type "code", .none, .fields #[.str "are_members" 256, .str "are_members" 257, .str "/claim/cut.py" 258, .int 41 0, .int 3 0, .int 0 0, .int 0 0, .int 3 0, .ref 60, .bool Bool.true, .int 181 0, .ref 61, .none, .none, .none, .ref 62, .int 259 0, .int 41 0, .str "/claim/cut.py" 260], #[]⟩) ::
  (nat_lit 64, fn "are_members" "are_members" (top 16) "makes.shapes" 234 63) ::
  (nat_lit 68, ⟨.type "code", .none, .fields #[.str "is_struck" 262, .str "is_struck" 263, .str "/claim/cut.py" 264, .int 47 0, .int 2 0, .int 0 0, .int 0 0, .int 3 0, .ref 65, .bool Bool.true, .int 181 0, .ref 66, .none, .none, .none, .ref 67, .int 265 0, .int 47 0, .str "/claim/cut.py" 266], #[]⟩) ::
  (nat_lit 69, fn "is_struck" "is_struck" (top 17) "makes.shapes" 234 68) ::
  (nat_lit 75, cd "is_short_tuple" 268 "is_short_tuple" 269 270 51 1 70 71 72 73 74 272 51 273) ::
  (nat_lit 76, fn "is_short_tuple" "is_short_tuple" (top 18) "makes.shapes" 234 75) ::
  (nat_lit 82, cd "is_field" 275 "is_field" 276 277 53 1 77 78 79 80 81 279 53 280) ::
  (nat_lit 83, fn "is_field" "is_field" (top 19) "makes.shapes" 234 82) ::
  (nat_lit 89, cd "is_default" 282 "is_default" 283 284 55 1 84 85 86 87 88 286 55 287) ::
  (nat_lit 90, fn "is_default" "is_default" (top 20) "makes.shapes" 234 89) ::
  (nat_lit 96, cd "is_arm" 289 "is_arm" 290 291 57 1 91 92 93 94 95 293 57 294) ::
  (nat_lit 97, fn "is_arm" "is_arm" (top 21) "makes.shapes" 234 96) ::
  (nat_lit 103, cd "_law_feed" 298 "_law_feed" 299 300 62 1 98 99 100 101 102 302 62 303) ::
  (nat_lit 104, fn "_law_feed" "_law_feed" (top 23) "law_makes_k19_shapes_by_kind" 296 103) ::
  (nat_lit 110, cd "_law_draw" 305 "_law_draw" 306 307 64 2 105 106 107 108 109 314 64 315) ::
  (nat_lit 111, fn "_law_draw" "_law_draw" (top 24) "law_makes_k19_shapes_by_kind" 296 110) ::
  (nat_lit 115, ⟨.type "code", .none, .fields #[.str "_law_is_name" 317, .str "_law_is_name" 318, .str "/claim/cut.py" 319, .int 78 0, .int 1 0, .int 0 0, .int 0 0, .int 3 0, .ref 112, .bool Bool.true, .int 181 0, .ref 113, .none, .none, .none, .ref 114, .int 320 0, .int 78 0, .str "/claim/cut.py" 321], #[]⟩) ::
  (nat_lit 116, fn "_law_is_name" "_law_is_name" (top 25) "law_makes_k19_shapes_by_kind" 296 115) ::
  (nat_lit 122, cd "_law_whole" 323 "_law_whole" 324 325 82 3 117 118 119 120 121 329 82 330) ::
  (nat_lit 123, fn "_law_whole" "_law_whole" (top 26) "law_makes_k19_shapes_by_kind" 296 122) ::
  (nat_lit 127, ⟨.type "code", .none, .fields #[.str "_law_rise" 332, .str "_law_rise" 333, .str "/claim/cut.py" 334, .int 84 0, .int 1 0, .int 0 0, .int 0 0, .int 3 0, .ref 124, .bool Bool.true, .int 181 0, .ref 125, .none, .none, .none, .ref 126, .int 335 0, .int 84 0, .str "/claim/cut.py" 336], #[]⟩) ::
  (nat_lit 128, fn "_law_rise" "_law_rise" (top 27) "law_makes_k19_shapes_by_kind" 296 127) ::
  (nat_lit 132, ⟨.type "code", .none, .fields #[.str "_law_names" 338, .str "_law_names" 339, .str "/claim/cut.py" 340, .int 86 0, .int 2 0, .int 0 0, .int 0 0, .int 3 0, .ref 129, .bool Bool.true, .int 181 0, .ref 130, .none, .none, .none, .ref 131, .int 341 0, .int 86 0, .str "/claim/cut.py" 342], #[]⟩) ::
  (nat_lit 133, fn "_law_names" "_law_names" (top 28) "law_makes_k19_shapes_by_kind" 296 132) ::
  (nat_lit 137, ⟨.type "code", .none, .fields #[.str "_law_numbers" 344, .str "_law_numbers" 345, .str "/claim/cut.py" 346, .int 91 0, .int 2 0, .int 0 0, .int 0 0, .int 3 0, .ref 134, .bool Bool.true, .int 181 0, .ref 135, .none, .none, .none, .ref 136, .int 347 0, .int 91 0, .str "/claim/cut.py" 348], #[]⟩) ::
  (nat_lit 138, fn "_law_numbers" "_law_numbers" (top 29) "law_makes_k19_shapes_by_kind" 296 137) ::
  (nat_lit 144, cd "_law_plain_shape" 350 "_law_plain_shape" 351 352 94 2 139 140 141 142 143 358 94 359) ::
  (nat_lit 145, fn "_law_plain_shape" "_law_plain_shape" (top 30) "law_makes_k19_shapes_by_kind" 296 144) ::
  (nat_lit 151, cd "_law_plain_value" 361 "_law_plain_value" 362 363 105 2 146 147 148 149 150 366 105 367) ::
  (nat_lit 152, fn "_law_plain_value" "_law_plain_value" (top 31) "law_makes_k19_shapes_by_kind" 296 151) ::
  (nat_lit 156, ⟨.type "code", .none, .fields #[.str "_law_struck" 369, .str "_law_struck" 370, .str "/claim/cut.py" 371, .int 113 0, .int 2 0, .int 0 0, .int 0 0, .int 3 0, .ref 153, .bool Bool.true, .int 181 0, .ref 154, .none, .none, .none, .ref 155, .int 372 0, .int 113 0, .str "/claim/cut.py" 373], #[]⟩) ::
  (nat_lit 157, fn "_law_struck" "_law_struck" (top 32) "law_makes_k19_shapes_by_kind" 296 156) ::
  (nat_lit 163, cd "_law_parts" 375 "_law_parts" 376 377 115 3 158 159 160 161 162 387 115 388) ::
  (nat_lit 164, fn "_law_parts" "_law_parts" (top 33) "law_makes_k19_shapes_by_kind" 296 163) ::
  (nat_lit 168, ⟨.type "code", .none, .fields #[.str "_law_make" 390, .str "_law_make" 391, .str "/claim/cut.py" 392, .int 125 0, .int 1 0, .int 0 0, .int 0 0, .int 3 0, .ref 165, .bool Bool.true, .int 181 0, .ref 166, .none, .none, .none, .ref 167, .int 393 0, .int 125 0, .str "/claim/cut.py" 394], #[]⟩) ::
  (nat_lit 169, fn "_law_make" "_law_make" (top 34) "law_makes_k19_shapes_by_kind" 296 168) ::
  (nat_lit 175, cd "_law_odd" 396 "_law_odd" 397 398 142 2 170 171 172 173 174 402 142 403) ::
  (nat_lit 176, fn "_law_odd" "_law_odd" (top 35) "law_makes_k19_shapes_by_kind" 296 175) ::
  (nat_lit 182, cd "_law_bent" 405 "_law_bent" 406 407 146 2 177 178 179 180 181 412 146 413) ::
  (nat_lit 183, fn "_law_bent" "_law_bent" (top 36) "law_makes_k19_shapes_by_kind" 296 182) ::
  (nat_lit 189, cd "_law_is_part" 415 "_law_is_part" 416 417 154 2 184 185 186 187 188 420 154 421) ::
  (nat_lit 190, fn "_law_is_part" "_law_is_part" (top 37) "law_makes_k19_shapes_by_kind" 296 189) ::
  (nat_lit 194, ⟨.type "code", .none, .fields #[.str "_law_are_parts" 423, .str "_law_are_parts" 424, .str "/claim/cut.py" 425, .int 160 0, .int 3 0, .int 0 0, .int 0 0, .int 3 0, .ref 191, .bool Bool.true, .int 181 0, .ref 192, .none, .none, .none, .ref 193, .int 426 0, .int 160 0, .str "/claim/cut.py" 427], #[]⟩) ::
  (nat_lit 195, fn "_law_are_parts" "_law_are_parts" (top 38) "law_makes_k19_shapes_by_kind" 296 194) ::
  (nat_lit 199, ⟨.type "code", .none, .fields #[.str "_law_is_shape" 429, .str "_law_is_shape" 430, .str "/claim/cut.py" 431, .int 171 0, .int 1 0, .int 0 0, .int 0 0, .int 3 0, .ref 196, .bool Bool.true, .int 181 0, .ref 197, .none, .none, .none, .ref 198, .int 432 0, .int 171 0, .str "/claim/cut.py" 433], #[]⟩) ::
  (nat_lit 200, fn "_law_is_shape" "_law_is_shape" (top 39) "law_makes_k19_shapes_by_kind" 296 199) ::
  (nat_lit 206, cd "_law_asked" 435 "_law_asked" 436 437 187 2 201 202 203 204 205 441 187 442) ::
  (nat_lit 207, fn "_law_asked" "_law_asked" (top 40) "law_makes_k19_shapes_by_kind" 296 206) ::
  (nat_lit 211, ⟨.type "code", .none, .fields #[.str "_law_many" 444, .str "_law_many" 445, .str "/claim/cut.py" 446, .int 190 0, .int 2 0, .int 0 0, .int 0 0, .int 3 0, .ref 208, .bool Bool.true, .int 181 0, .ref 209, .none, .none, .none, .ref 210, .int 447 0, .int 190 0, .str "/claim/cut.py" 448], #[]⟩) ::
  (nat_lit 212, fn "_law_many" "_law_many" (top 41) "law_makes_k19_shapes_by_kind" 296 211) ::
  (nat_lit 216, ⟨.type "code", .none, .fields #[.str "law" 450, .str "law" 451, .str "/claim/cut.py" 452, .int 197 0, .int 1 0, .int 0 0, .int 0 0, .int 3 0, .ref 213, .bool Bool.true, .int 181 0, .ref 214, .none, .none, .none, .ref 215, .int 453 0, .int 197 0, .str "/claim/cut.py" 454], #[]⟩) ::
  (nat_lit 217, fn "law" "law" (top 42) "law_makes_k19_shapes_by_kind" 296 216) ::
  []
def asK : List Addr := [3, 20, 21, 27, 28, 34, 35, 39, 40, 44, 45, 51, 52, 58, 59, 63, 64, 68, 69, 75, 76, 82, 83, 89, 90, 96, 97, 103, 104, 110, 111, 115, 116, 122, 123, 127, 128, 132, 133, 137, 138, 144, 145, 151, 152, 156, 157, 163, 164, 168, 169, 175, 176, 182, 183, 189, 190, 194, 195, 199, 200, 206, 207, 211, 212, 216, 217]
theorem asK_eq (P : Params) : asK = (heapK P).map (·.1) := by kernel_rfl
noncomputable abbrev hookK : PySem.W.Hook := PySem.W.kHook heapK asK asK_eq
abbrev xtK (s : Shared) : Bool := PySem.W.xlAt viewK [] s && PySem.W.recOk (PySem.W.RowW.records PySem.Challenge.rw_makes_k19_shapes_by_kind.row.toRowW) s
abbrev LeftAt (w : World) : Prop := (PySem.W.openEnds treeTable PySem.Challenge.pw_makes_k19_shapes_by_kind w 2200).map (fun s => (PySem.W.openSeen viewK looseK (importedModules PySem.Challenge.pw_makes_k19_shapes_by_kind.main.body) xtK true s, hookK.obs s)) = some (PySem.W.openGood viewK looseK, hookK.val w)
abbrev seenK (s : Shared) := PySem.W.openSeen viewK looseK (importedModules PySem.Challenge.pw_makes_k19_shapes_by_kind.main.body) xtK true s
abbrev wK (w : World) (b : Bool) : World := w.withFollow "special-get-raises" b
theorem chkF (w : World) (os : OsState) : ((L2.goT PySem.Challenge.pw_makes_k19_shapes_by_kind 2200 (wK w false) os).map fun s => L2.chkT PySem.Challenge.pw_makes_k19_shapes_by_kind (wK w false) s.abs) = some true := by kernel_rfl
theorem chkR (w : World) (os : OsState) : ((L2.goT PySem.Challenge.pw_makes_k19_shapes_by_kind 2200 (wK w true) os).map fun s => L2.chkT PySem.Challenge.pw_makes_k19_shapes_by_kind (wK w true) s.abs) = some true := by kernel_rfl
theorem seenF1 (w : World) (os : OsState) : ((L2.goT PySem.Challenge.pw_makes_k19_shapes_by_kind 2200 (wK w false) os).map fun s => (seenK s.abs).1) = some (PySem.W.openGood viewK looseK).1 := by kernel_rfl
theorem seenF2 (w : World) (os : OsState) : ((L2.goT PySem.Challenge.pw_makes_k19_shapes_by_kind 2200 (wK w false) os).map fun s => (seenK s.abs).2.1) = some (PySem.W.openGood viewK looseK).2.1 := by kernel_rfl
theorem seenF3 (w : World) (os : OsState) : ((L2.goT PySem.Challenge.pw_makes_k19_shapes_by_kind 2200 (wK w false) os).map fun s => (seenK s.abs).2.2) = some (PySem.W.openGood viewK looseK).2.2 := by kernel_rfl
theorem seenT1 (w : World) (os : OsState) : ((L2.goT PySem.Challenge.pw_makes_k19_shapes_by_kind 2200 (wK w true) os).map fun s => (seenK s.abs).1) = some (PySem.W.openGood viewK looseK).1 := by kernel_rfl
theorem seenT2 (w : World) (os : OsState) : ((L2.goT PySem.Challenge.pw_makes_k19_shapes_by_kind 2200 (wK w true) os).map fun s => (seenK s.abs).2.1) = some (PySem.W.openGood viewK looseK).2.1 := by kernel_rfl
theorem seenT3 (w : World) (os : OsState) : ((L2.goT PySem.Challenge.pw_makes_k19_shapes_by_kind 2200 (wK w true) os).map fun s => (seenK s.abs).2.2) = some (PySem.W.openGood viewK looseK).2.2 := by kernel_rfl
theorem seen_of {w : World} {os : OsState} (h1 : ((L2.goT PySem.Challenge.pw_makes_k19_shapes_by_kind 2200 w os).map fun s => (seenK s.abs).1) = some (PySem.W.openGood viewK looseK).1) (h2 : ((L2.goT PySem.Challenge.pw_makes_k19_shapes_by_kind 2200 w os).map fun s => (seenK s.abs).2.1) = some (PySem.W.openGood viewK looseK).2.1)
    (h3 : ((L2.goT PySem.Challenge.pw_makes_k19_shapes_by_kind 2200 w os).map fun s => (seenK s.abs).2.2) = some (PySem.W.openGood viewK looseK).2.2) : ((L2.goT PySem.Challenge.pw_makes_k19_shapes_by_kind 2200 w os).map fun s => seenK s.abs) = some (PySem.W.openGood viewK looseK) := by
  obtain ⟨s, e, c1⟩ := L2.map_abs (f := fun s => (seenK s).1) h1
  obtain ⟨s2, e2, c2⟩ := L2.map_abs (f := fun s => (seenK s).2.1) h2
  obtain ⟨s3, e3, c3⟩ := L2.map_abs (f := fun s => (seenK s).2.2) h3
  rw [e] at e2 e3
  cases e2
  cases e3
  rw [e]
  exact congrArg some (Prod.ext c1 (Prod.ext c2 c3))
theorem seenF (w : World) (os : OsState) : ((L2.goT PySem.Challenge.pw_makes_k19_shapes_by_kind 2200 (wK w false) os).map fun s => seenK s.abs) = some (PySem.W.openGood viewK looseK) := seen_of (seenF1 w os) (seenF2 w os) (seenF3 w os)
theorem seenT (w : World) (os : OsState) : ((L2.goT PySem.Challenge.pw_makes_k19_shapes_by_kind 2200 (wK w true) os).map fun s => seenK s.abs) = some (PySem.W.openGood viewK looseK) := seen_of (seenT1 w os) (seenT2 w os) (seenT3 w os)
theorem obsF (w : World) (os : OsState) : ((L2.goT PySem.Challenge.pw_makes_k19_shapes_by_kind 2200 (wK w false) os).map fun s => hookK.obs s.abs) = some (hookK.val (wK w false)) := by kernel_rfl
theorem obsT (w : World) (os : OsState) : ((L2.goT PySem.Challenge.pw_makes_k19_shapes_by_kind 2200 (wK w true) os).map fun s => hookK.obs s.abs) = some (hookK.val (wK w true)) := by kernel_rfl
theorem left_of (w : World) (h1 : ∀ os, ((L2.goT PySem.Challenge.pw_makes_k19_shapes_by_kind 2200 w os).map fun s => L2.chkT PySem.Challenge.pw_makes_k19_shapes_by_kind w s.abs) = some true) (h2 : ∀ os, ((L2.goT PySem.Challenge.pw_makes_k19_shapes_by_kind 2200 w os).map fun s => seenK s.abs) = some (PySem.W.openGood viewK looseK)) (h3 : ∀ os, ((L2.goT PySem.Challenge.pw_makes_k19_shapes_by_kind 2200 w os).map fun s => hookK.obs s.abs) = some (hookK.val w)) : LeftAt w := by
  obtain ⟨⟨hp, g, d, k, os⟩, hs, hv⟩ := Option.map_eq_some_iff.mp (PySem.W.boot_open (p := PySem.Challenge.pw_makes_k19_shapes_by_kind) (N := 2200) rfl (by decide) (fun s => rfl) w)
  simp only [Prod.mk.injEq] at hv
  obtain ⟨rfl, rfl, rfl, rfl⟩ := hv
  show Option.map _ (Option.bind (PySem.W.fencedOpening treeTable PySem.Challenge.pw_makes_k19_shapes_by_kind w 2200) (PySem.W.topFrom treeTable PySem.Challenge.pw_makes_k19_shapes_by_kind w 2200)) = _
  rw [hs]
  exact L2.top_of (h1 os) (h2 os) (h3 os)
theorem leftF (w : World) : LeftAt (w.withFollow "special-get-raises" false) := left_of _ (chkF w) (seenF w) (obsF w)
theorem leftT (w : World) : LeftAt (w.withFollow "special-get-raises" true) := left_of _ (chkR w) (seenT w) (obsT w)
theorem leftK : PySem.W.LeftO PySem.Challenge.pw_makes_k19_shapes_by_kind viewK looseK xtK hookK.obs hookK.val 2200 := PySem.W.byRow2 "special-get-raises" leftF leftT
end K19
set_option Elab.async false
set_option linter.all false
set_option maxRecDepth 100000
namespace L2
open PySem PySem.Spec PyProof.Rows
abbrev Key := Sum Int Str
def keyIs : Key → Value → Bool
  | .inl k, v => Value.isInt k v
  | .inr x, v => Value.isStrOf x v
def keyH (w : World) : Key → Int
  | .inl k => hashInt k
  | .inr x => hashStr w x
theorem keyIs_shape : ∀ {k : Key} {v : Value}, keyIs k v = true → (∃ i t, k = Sum.inl i ∧ v = Value.int i t) ∨ (∃ x t, k = Sum.inr x ∧ v = Value.str x t)
  | .inl i, v, h => by
    obtain ⟨t, e⟩ := Value.isInt_shape (k := i) (v := v) h
    exact .inl ⟨i, t, rfl, e⟩
  | .inr x, v, h => by
    obtain ⟨t, e⟩ := Value.isStrOf_shape (x := x) (v := v) h
    exact .inr ⟨x, t, rfl, e⟩
theorem keyIs_int (i : Int) (t : Tok) : keyIs (.inl i) (.int i t) = true := by simp [keyIs, Value.isInt]
theorem keyIs_str (x : Str) (t : Tok) : keyIs (.inr x) (.str x t) = true := by simp [keyIs, Value.isStrOf]
theorem key_ll (a b : Int) : decide ((Sum.inl a : Key) = Sum.inl b) = (a == b) := by
  by_cases e : a = b
  · subst e; simp
  · have h : ¬ (Sum.inl a : Key) = Sum.inl b := fun q => e (Sum.inl.inj q)
    rw [decide_eq_false h]
    exact (beq_eq_false_iff_ne.mpr e).symm
theorem key_rr (a b : Str) : decide ((Sum.inr a : Key) = Sum.inr b) = decide (a = b) := by
  by_cases e : a = b
  · subst e; simp
  · have h : ¬ (Sum.inr a : Key) = Sum.inr b := fun q => e (Sum.inr.inj q)
    rw [decide_eq_false h, decide_eq_false e]
theorem key_lr (a : Int) (b : Str) : decide ((Sum.inl a : Key) = Sum.inr b) = false := decide_eq_false (fun q => nomatch q)
theorem key_rl (a : Str) (b : Int) : decide ((Sum.inr a : Key) = Sum.inl b) = false := decide_eq_false (fun q => nomatch q)
def mixKind (prog : Program) (w : World) : PySem.KeyKind prog w Key where
  is := keyIs
  hash := keyH w
  inj := fun v a b ha hb => by
    rcases keyIs_shape ha with ⟨i, t, rfl, rfl⟩ | ⟨x, t, rfl, rfl⟩
    · rcases keyIs_shape hb with ⟨j, u, rfl, e⟩ | ⟨y, u, rfl, e⟩
      · injection e with e1 _; rw [e1]
      · exact nomatch e
    · rcases keyIs_shape hb with ⟨j, u, rfl, e⟩ | ⟨y, u, rfl, e⟩
      · exact nomatch e
      · injection e with e1 _; rw [e1]
  byValue := fun k v h => by
    rcases keyIs_shape h with ⟨i, t, rfl, rfl⟩ | ⟨x, t, rfl, rfl⟩ <;> rfl
  pyHash := fun hv h => by
    rcases keyIs_shape hv with ⟨i, t, rfl, rfl⟩ | ⟨x, t, rfl, rfl⟩
    · exact wpAny_pyHash_int h
    · exact wpAny_pyHash_str h
  eqBool := fun hu hv h => by
    rcases keyIs_shape hu with ⟨i, t, rfl, rfl⟩ | ⟨x, t, rfl, rfl⟩
    · rcases keyIs_shape hv with ⟨j, u, rfl, rfl⟩ | ⟨y, u, rfl, rfl⟩
      · rw [key_ll] at h; exact wpAny_eqBool_int h
      · rw [key_lr] at h; exact SeqAt.EqAt.int_str i t y u _ _ _ _ h
    · rcases keyIs_shape hv with ⟨j, u, rfl, rfl⟩ | ⟨y, u, rfl, rfl⟩
      · rw [key_rl] at h; exact SeqAt.EqAt.str_int x t j u _ _ _ _ h
      · rw [key_rr] at h; exact wpAny_eqBool_str h
  «strs» := fun k x t v h => by
    rcases keyIs_shape h with ⟨i, u, rfl, e⟩ | ⟨y, u, rfl, e⟩
    · exact nomatch e
    · injection e with e1 _
      subst e1
      cases v <;> rfl
theorem mixKind_int (prog : Program) (w : World) (i : Int) (t : Tok) : (mixKind prog w).is (.inl i) (.int i t) = true := keyIs_int i t
theorem mixKind_str (prog : Program) (w : World) (x : Str) (t : Tok) : (mixKind prog w).is (.inr x) (.str x t) = true := keyIs_str x t
end L2
namespace L2
open PySem PySem.Spec PyProof.Rows
inductive V where
  | non | bl (b : Bool) | int (i : Int) | str (x : Str) | byt (b : Array UInt8) | flt (b : UInt64) | ref (a : Addr) | ty (n : String)
  deriving DecidableEq
def RelV : V → Value → Prop
  | .non, u => u = Value.none
  | .bl b, u => u = Value.bool b
  | .int i, u => ∃ t, u = Value.int i t
  | .str x, u => ∃ t, u = Value.str x t
  | .byt b, u => ∃ t, u = Value.bytes b t
  | .flt b, u => ∃ t, u = Value.float b t
  | .ref a, u => u = Value.ref a
  | .ty n, u => u = Value.type n
abbrev Vals : List V → List Value → Prop := Paired RelV
theorem Vals.length {xs : List V} {us : List Value} (r : Vals xs us) : xs.length = us.length := Paired.length r
theorem Vals.get : ∀ {xs : List V} {us : List Value} {i : Nat} {x : V}, Vals xs us → xs[i]? = some x → ∃ u, us[i]? = some u ∧ RelV x u
  | _, _, _, _, .nil, e => by simp at e
  | _, _, 0, _, .cons r _, e => by simp at e; subst e; exact ⟨_, rfl, r⟩
  | _, _, i + 1, x, .cons _ t, e => by
    obtain ⟨u, h1, h2⟩ := Vals.get (i := i) (x := x) t (by simpa using e)
    exact ⟨u, by simpa using h1, h2⟩
theorem Vals.set {x : V} {u : Value} (r : RelV x u) : ∀ {xs : List V} {us : List Value} (i : Nat), Vals xs us → Vals (xs.set i x) (us.set i u)
  | _, _, _, .nil => .nil
  | _, _, 0, .cons _ t => .cons r t
  | _, _, i + 1, .cons q t => .cons q (Vals.set r i t)
theorem Vals.append : ∀ {xs ys : List V} {us ws : List Value}, Vals xs us → Vals ys ws → Vals (xs ++ ys) (us ++ ws)
  | _, _, _, _, .nil, s => s
  | _, _, _, _, .cons r t, s => .cons r (Vals.append t s)
theorem Vals.take : ∀ {xs : List V} {us : List Value} (n : Nat), Vals xs us → Vals (xs.take n) (us.take n)
  | _, _, 0, _ => .nil
  | _, _, _ + 1, .nil => .nil
  | _, _, n + 1, .cons r t => .cons r (Vals.take n t)
theorem Vals.drop : ∀ {xs : List V} {us : List Value} (n : Nat), Vals xs us → Vals (xs.drop n) (us.drop n)
  | _, _, 0, r => r
  | _, _, _ + 1, .nil => .nil
  | _, _, n + 1, .cons _ t => Vals.drop n t
def RelO : Option V → Option Value → Prop
  | some v, some u => RelV v u
  | none, none => True
  | _, _ => False
def KV {κ : Type} : List (κ × V) → List (κ × Value) → Prop := Paired fun (p : κ × V) (q : κ × Value) => p.1 = q.1 ∧ RelV p.2 q.2
def kV : Key → V
  | .inl i => .int i
  | .inr x => .str x
inductive HO where
  | lst (xs : List V)
  | tup (xs : List V)
  | dK (kvs : List (Key × V)) | dT (kvs : List (List Key × V))
  | set (S : Int → Bool) (n : Nat)
  | ins (C dx : Addr) (fs : List (Str × V))
  | own (x : Addr)
  | xd (fs : List (Str × V))
  | met (f x : Addr)
  | rng (lo hi : Int)
  | frz (o : Obj) (u : HO)
  | tbl (ps : Array Value)
  | ext (φ : Heap → Prop)
abbrev Hp := Addr → Option HO
def upd (H : Hp) (a : Addr) (o : HO) : Hp := fun b => if b = a then some o else H b
theorem upd_same {H : Hp} {a : Addr} {o : HO} : upd H a o a = some o := by unfold upd; rw [if_pos rfl]
theorem upd_ne {H : Hp} {a b : Addr} {o : HO} (h : b ≠ a) : upd H a o b = H b := by unfold upd; rw [if_neg h]
theorem upd_upd {H : Hp} {a : Addr} {o u : HO} : upd (upd H a o) a u = upd H a u := by
  funext b; unfold upd; split <;> rfl
theorem ne_of {H : Hp} {a b : Addr} {o u : HO} (h : H a = some o) (h' : H b = some u) (d : o ≠ u) : a ≠ b := by
  intro e; subst e; rw [h] at h'; exact d (Option.some.inj h')
theorem ne_of_none {H : Hp} {a b : Addr} {o : HO} (h : H a = some o) (h' : H b = none) : a ≠ b := by
  intro e; subst e; rw [h] at h'; cases h'
section
variable (P : Program) (w : World)
def ObjOk (H : Hp) (h : Heap) (a : Addr) : HO → Prop
  | .lst xs => xs.length ≤ sizeLine ∧ ∃ (its : List Value) (n : Nat), Vals xs its ∧ h.get? a = some { cls := .type "list", data := .seq its.toArray n }
  | .tup xs => xs.length ≤ sizeLine ∧ ∃ its : List Value, Vals xs its ∧ IsTup h a its.toArray
  | .dK kvs => kvs.length ≤ sizeLine ∧ (a == sysModules) = false ∧ ∃ vs, KV kvs vs ∧ h.DictOf (mixKind P w) a vs
  | .dT kvs => kvs.length ≤ sizeLine ∧ (a == sysModules) = false ∧ ∃ xs : List (List Key × Addr × Value),
      Paired (fun (p : List Key × V) (q : List Key × Addr × Value) => p.1 = q.1 ∧ H q.2.1 = some (.tup (p.1.map kV)) ∧ RelV p.2 q.2.2) kvs xs ∧
      ∃ o es ep, h.get? a = some o ∧ o.ExactDict ∧ o.data = .dict es ep ∧ es.toList = xs.map (entryOfKey (tupleKind (mixKind P w))) ∧ (xs.map (·.1)).Nodup
  | .set S n => h.SetOf (intKind P w) a S n
  | .ins C dx fs => H dx = some (.own a) ∧ fs.length ≤ 1000 ∧ dx ≠ a ∧ h.get? a = some (PySem.W.instObj C dx) ∧
      ∃ mA, h.Ns1 dx mA ∧ (∀ f, RelO (fs.lookup f) (mA f)) ∧ PySem.Within mA (fs.map (·.1))
  | .own _ => ∃ o, h.get? a = some o
  | .xd fs => ∃ mA, h.Ns1 a mA ∧ ∀ f, RelO (fs.lookup f) (mA f)
  | .rng lo hi => ∃ t u v, h.get? a = some { cls := .type "range", data := .fields #[.int lo t, .int hi u, .int 1 v] }
  | .frz o u => h.get? a = some o ∧ ObjOk H h a u
  | .tbl ps => h.get? a = some { cls := .none, data := .fields ps }
  | .met f x => h.get? a = some (PySem.W.methodObj (.ref f) (.ref x))
  | .ext φ => φ h ∧ (∃ o, h.get? a = some o) ∧ ∀ h1 h2 : Heap, φ h1 → (∀ o, h1.get? a = some o → h2.get? a = some o) → φ h2
def HOk (H : Hp) (h : Heap) : Prop := ∀ a o, H a = some o → ObjOk P w H h a o
end
section
variable {P : Program} {w : World} {H H' : Hp} {h h' : Heap} {a : Addr} {o : HO}
theorem ObjOk.lt (x : ObjOk P w H h a o) : a < h.objs.size := by
  cases o with
  | lst xs => obtain ⟨_, _, _, _, e⟩ := x; exact Heap.lt_size e
  | tup xs => obtain ⟨_, _, _, p⟩ := x; exact p.lt
  | dK kvs => obtain ⟨_, _, _, _, o, _, _, e, _⟩ := x; exact Heap.lt_size e
  | dT kvs => obtain ⟨_, _, _, _, o, _, _, e, _⟩ := x; exact Heap.lt_size e
  | set S n => obtain ⟨o, _, _, _, e, _⟩ := x; exact Heap.lt_size e
  | ins C dx fs => obtain ⟨_, _, _, e, _⟩ := x; exact Heap.lt_size e
  | own y => obtain ⟨_, e⟩ := x; exact Heap.lt_size e
  | xd fs => obtain ⟨_, ⟨_, _, _, e, _⟩, _⟩ := x; exact Heap.lt_size e
  | rng lo hi => obtain ⟨_, _, _, e⟩ := x; exact Heap.lt_size e
  | frz ob u => obtain ⟨e, _⟩ := x; exact Heap.lt_size e
  | tbl ps => exact Heap.lt_size (show h.get? a = some _ from x)
  | met f y => exact Heap.lt_size (show h.get? a = some _ from x)
  | ext φ => obtain ⟨_, ⟨_, e⟩, _⟩ := x; exact Heap.lt_size e
theorem Paired.mapP {α β : Type} {F G : α → β → Prop} : ∀ {l₁ : List α} {l₂ : List β}, Paired F l₁ l₂ → (∀ a b, F a b → G a b) → Paired G l₁ l₂
  | _, _, .nil, _ => .nil
  | _, _, .cons r t, f => .cons (f _ _ r) (Paired.mapP t f)
theorem ObjOk.stay (x : ObjOk P w H h a o) (k : ∀ b u, (b = a ∨ H b = some (.own a)) → h.get? b = some u → h'.get? b = some u)
    (ho : ∀ b, H b = some (.own a) → H' b = some (.own a)) (ht : ∀ b xs, H b = some (.tup xs) → H' b = some (.tup xs)) : ObjOk P w H' h' a o := by
  induction o with
  | lst xs => obtain ⟨z, its, n, r, e⟩ := x; exact ⟨z, its, n, r, k _ _ (.inl rfl) e⟩
  | tup xs => obtain ⟨z, its, r, ob, e, c⟩ := x; exact ⟨z, its, r, ob, k _ _ (.inl rfl) e, c⟩
  | dK kvs => obtain ⟨z, y, vs, r, ob, es, ep, e, c⟩ := x; exact ⟨z, y, vs, r, ob, es, ep, k _ _ (.inl rfl) e, c⟩
  | dT kvs =>
    obtain ⟨z, y, xs, r, ob, es, ep, e, c⟩ := x
    exact ⟨z, y, xs, Paired.mapP r fun p q z => ⟨z.1, ht _ _ z.2.1, z.2.2⟩, ob, es, ep, k _ _ (.inl rfl) e, c⟩
  | set S n => obtain ⟨ob, es, ep, t, e, c⟩ := x; exact ⟨ob, es, ep, t, k _ _ (.inl rfl) e, c⟩
  | ins C dx fs =>
    obtain ⟨d, z, ne, e, mA, ⟨od, es, ep, e2, c⟩, r⟩ := x
    exact ⟨ho _ d, z, ne, k _ _ (.inl rfl) e, mA, ⟨od, es, ep, k _ _ (.inr d) e2, c⟩, r⟩
  | own y => obtain ⟨ob, e⟩ := x; exact ⟨ob, k _ _ (.inl rfl) e⟩
  | xd fs => obtain ⟨mA, ⟨od, es, ep, e, c⟩, r⟩ := x; exact ⟨mA, ⟨od, es, ep, k _ _ (.inl rfl) e, c⟩, r⟩
  | rng lo hi => obtain ⟨t, u, v, e⟩ := x; exact ⟨t, u, v, k _ _ (.inl rfl) e⟩
  | frz ob u ih => obtain ⟨e, q⟩ := x; exact ⟨k _ _ (.inl rfl) e, ih q⟩
  | tbl ps =>
    have e : h.get? a = some { cls := .none, data := .fields ps } := x
    show h'.get? a = some { cls := .none, data := .fields ps }
    exact k a _ (.inl rfl) e
  | met f y =>
    have e : h.get? a = some (PySem.W.methodObj (.ref f) (.ref y)) := x
    show h'.get? a = some (PySem.W.methodObj (.ref f) (.ref y))
    exact k a _ (.inl rfl) e
  | ext φ => obtain ⟨p, ⟨o, e⟩, st⟩ := x; exact ⟨st _ _ p fun o q => k _ _ (.inl rfl) q, ⟨o, k _ _ (.inl rfl) e⟩, st⟩
theorem HOk.lt (x : HOk P w H h) (e : H a = some o) : a < h.objs.size := (x a o e).lt
theorem HOk.fresh (x : HOk P w H h) (e : h.objs.size ≤ a) : H a = none := by
  cases q : H a with
  | none => rfl
  | some u => exact absurd (Nat.lt_of_lt_of_le (x.lt q) e) (Nat.lt_irrefl _)
theorem HOk.kept (x : HOk P w H h) (k : ∀ b u, h.get? b = some u → h'.get? b = some u) : HOk P w H h' := fun a o e =>
  (x a o e).stay (fun b u _ q => k b u q) (fun _ q => q) fun _ _ q => q
theorem HOk.laid (x : HOk P w H h) (k : ∀ b u, h.get? b = some u → h'.get? b = some u) (hp : h.objs.size ≤ a) (new : ObjOk P w (upd H a o) h' a o) : HOk P w (upd H a o) h' := fun b u e => by
  have hn := x.fresh hp
  by_cases hb : b = a
  · subst hb; rw [upd_same] at e; cases e; exact new
  · rw [upd_ne hb] at e
    exact (x b u e).stay (fun c v _ q => k c v q) (fun c q => by rw [upd_ne (ne_of_none q hn)]; exact q) fun c xs q => by rw [upd_ne (ne_of_none q hn)]; exact q
end
def Rd (H : Hp) (a : Addr) (u : HO) : Prop := H a = some u ∨ ∃ o, H a = some (.frz o u)
theorem Rd.of {H : Hp} {a : Addr} {u : HO} (h : H a = some u) : Rd H a u := .inl h
theorem Rd.ok {P : Program} {w : World} {H : Hp} {h : Heap} {a : Addr} {u : HO} (r : Rd H a u) (x : HOk P w H h) : ObjOk P w H h a u := by
  rcases r with r | ⟨o, r⟩
  · exact x a u r
  · obtain ⟨_, q⟩ := x a _ r
    exact q
def Mut : Option HO → Prop
  | some (.lst _) => True
  | some (.dK _) => True
  | some (.dT _) => True
  | some (.set _ _) => True
  | some (.ins _ _ _) => True
  | some (.ext _) => True
  | _ => False
section
variable {P : Program} {w : World} {H : Hp} {h h' : Heap} {x e : Addr} {o' : HO}
theorem HOk.write (ok : HOk P w H h) (mu : Mut (H x)) (he : e = x ∨ H e = some (.own x)) (k : ∀ b u, b ≠ e → h.get? b = some u → h'.get? b = some u) (heo : ∃ u, h'.get? e = some u)
    (new : ObjOk P w (upd H x o') h' x o') : HOk P w (upd H x o') h' := fun b u q => by
  have nown : ∀ c y, H c = some (.own y) → c ≠ x := fun c y r z => by subst z; rw [r] at mu; exact mu
  have ntup : ∀ c xs, H c = some (.tup xs) → c ≠ x := fun c xs r z => by subst z; rw [r] at mu; exact mu
  by_cases hb : b = x
  · subst hb; rw [upd_same] at q; cases q; exact new
  · rw [upd_ne hb] at q
    by_cases hbe : b = e
    · have q' : H b = some (.own x) := by
        rcases he with z | z
        · exact absurd (hbe.trans z) hb
        · rw [hbe]; exact z
      rw [q] at q'; cases q'
      obtain ⟨v, hv⟩ := heo
      exact ⟨v, by rw [hbe]; exact hv⟩
    · refine (ok b u q).stay (fun c v hc r => k c v ?_ r) (fun c r => by rw [upd_ne (nown c b r)]; exact r) fun c xs r => by rw [upd_ne (ntup c xs r)]; exact r
      rcases hc with rfl | hc
      · exact hbe
      · rintro rfl
        rcases he with z | z
        · exact nown c b hc z
        · rw [hc] at z; cases z; exact hb rfl
end
structure Un (fs ex : List Addr) (H H' : Hp) (h h' : Heap) : Prop where
  keep : ∀ b o, h.get? b = some o → H b = none → b ∉ fs → b ∉ ex → h'.get? b = some o
  slot : ∀ b o, h.get? b = some o → H b = none → b ∈ fs → b ∉ ex → ∃ sl, h'.get? b = some { o with slots := sl }
  free : ∀ b o, h.get? b = some o → H b = none → b ∉ ex → H' b = none
  there : ∀ b o, h.get? b = some o → b ∉ ex → ∃ o', h'.get? b = some o'
  tups : ∀ b xs, H b = some (.tup xs) → H' b = some (.tup xs)
  frzs : ∀ b o u, H b = some (.frz o u) → H' b = some (.frz o u)
  tbls : ∀ b ps, H b = some (.tbl ps) → ∃ more, H' b = some (.tbl (ps ++ more))
section
variable {fs fs' ex ex' : List Addr} {H H1 H2 : Hp} {h h1 h2 h' : Heap} {a x e : Addr} {o : HO}
theorem Un.any (u : Un fs ex H H1 h h1) {b : Addr} {ob : Obj} (q : h.get? b = some ob) (n : H b = none) (hx : b ∉ ex) : ∃ sl, h1.get? b = some { ob with slots := sl } := by
  by_cases hb : b ∈ fs
  · exact u.slot b ob q n hb hx
  · exact ⟨ob.slots, u.keep b ob q n hb hx⟩
theorem Un.trans (a : Un fs ex H H1 h h1) (b : Un fs ex H1 H2 h1 h2) : Un fs ex H H2 h h2 where
  keep := fun c ob q n hc hx => b.keep c ob (a.keep c ob q n hc hx) (a.free c ob q n hx) hc hx
  slot := fun c ob q n hc hx => by
    obtain ⟨sl, e1⟩ := a.slot c ob q n hc hx
    obtain ⟨sl', e2⟩ := b.slot c _ e1 (a.free c ob q n hx) hc hx
    exact ⟨sl', e2⟩
  free := fun c ob q n hx => by
    obtain ⟨o', e1⟩ := a.there c ob q hx
    exact b.free c o' e1 (a.free c ob q n hx) hx
  there := fun c ob q hx => by
    obtain ⟨o', e1⟩ := a.there c ob q hx
    exact b.there c o' e1 hx
  tups := fun c xs q => b.tups c xs (a.tups c xs q)
  frzs := fun c ob xs q => b.frzs c ob xs (a.frzs c ob xs q)
  tbls := fun c ps q => by
    obtain ⟨m1, e1⟩ := a.tbls c ps q
    obtain ⟨m2, e2⟩ := b.tbls c _ e1
    exact ⟨m1 ++ m2, by rw [e2, Array.append_assoc]⟩
theorem Un.kept (k : ∀ b u, h.get? b = some u → h'.get? b = some u) : Un fs ex H H h h' :=
  ⟨fun b ob q _ _ _ => k b ob q, fun b ob q _ _ _ => ⟨ob.slots, k b ob q⟩, fun _ _ _ n _ => n, fun b ob q _ => ⟨ob, k b ob q⟩, fun _ _ q => q, fun _ _ _ q => q, fun _ ps q => ⟨#[], by rw [q]; simp⟩⟩
theorem Un.refl : Un fs ex H H h h := Un.kept fun _ _ q => q
theorem Un.laid (k : ∀ b u, h.get? b = some u → h'.get? b = some u) (hp : h.objs.size ≤ a) (hn : H a = none) : Un fs ex H (upd H a o) h h' where
  keep := fun b u q _ _ _ => k b u q
  slot := fun b u q _ _ _ => ⟨u.slots, k b u q⟩
  free := fun b u q n _ => by rw [upd_ne (Nat.ne_of_lt (Nat.lt_of_lt_of_le (Heap.lt_size q) hp))]; exact n
  there := fun b u q _ => ⟨u, k b u q⟩
  tups := fun b xs q => by rw [upd_ne (ne_of_none q hn)]; exact q
  frzs := fun b u xs q => by rw [upd_ne (ne_of_none q hn)]; exact q
  tbls := fun b ps q => ⟨#[], by rw [upd_ne (ne_of_none q hn), q]; simp⟩
theorem Un.write (mu : Mut (H x)) (he : e = x ∨ H e = some (.own x)) (k : ∀ b u, b ≠ e → h.get? b = some u → h'.get? b = some u) (heo : ∃ u, h'.get? e = some u) : Un fs ex H (upd H x o) h h' := by
  have hx : ∀ b, H b = none → b ≠ x := fun b n z => by subst z; rw [n] at mu; exact mu
  have hb : ∀ b, H b = none → b ≠ e := fun b n z => by
    subst z
    rcases he with r | r
    · exact hx b n r
    · rw [n] at r; cases r
  have hm : ∀ b u, H b = some u → ¬ Mut (some u) → b ≠ x := fun b u q nm z => by subst z; rw [q] at mu; exact nm mu
  refine ⟨fun b u q n _ _ => k b u (hb b n) q, fun b u q n _ _ => ⟨u.slots, k b u (hb b n) q⟩, fun b u q n _ => by rw [upd_ne (hx b n)]; exact n, fun b u q _ => ?_,
    fun b xs q => by rw [upd_ne (hm b _ q fun z => z)]; exact q, fun b u xs q => by rw [upd_ne (hm b _ q fun z => z)]; exact q, fun b ps q => ⟨#[], by rw [upd_ne (hm b _ q fun z => z), q]; simp⟩⟩
  by_cases hbe : b = e
  · subst hbe; exact heo
  · exact ⟨u, k b u hbe q⟩
theorem Un.mono (u : Un fs ex H H1 h h1) (hs : ∀ b ∈ fs, b ∈ fs') (hx : ∀ b ∈ ex, b ∈ ex') : Un fs' ex' H H1 h h1 :=
  ⟨fun b ob q n hb he => u.keep b ob q n (fun z => hb (hs b z)) fun z => he (hx b z), fun _ _ q n _ he => u.any q n fun z => he (hx _ z), fun b ob q n he => u.free b ob q n fun z => he (hx b z), fun b ob q he => u.there b ob q fun z => he (hx b z), u.tups, u.frzs, u.tbls⟩
end
def trk (h : Heap) (H : Hp) : List Addr := (List.range h.objs.size).filter fun a => (H a).isSome
def hidT (h : Heap) (H : Hp) : Heap := PySem.W.hideAll h (trk h H)
theorem hidT_size (h : Heap) (H : Hp) : (hidT h H).objs.size = h.objs.size := PySem.W.hideAll_size _ _
theorem hidT_get {h : Heap} {H : Hp} {b : Addr} {o : Obj} (e : h.get? b = some o) (n : H b = none) : (hidT h H).get? b = some o :=
  PySem.W.hideAll_get _ e fun hm => by
    have q : (H b).isSome = true := (List.mem_filter.mp hm).2
    rw [n] at q; simp at q
theorem of_hidT {h : Heap} {H : Hp} {b : Addr} {o : Obj} (e : (hidT h H).get? b = some o) : h.get? b = some o ∧ H b = none := by
  have e' : h.get? b = some o := PySem.W.of_hideAll (trk h H) e
  refine ⟨e', ?_⟩
  cases q : H b with
  | none => rfl
  | some x =>
    have hm : b ∈ trk h H := List.mem_filter.mpr ⟨List.mem_range.mpr (Heap.lt_size e'), by simp [q]⟩
    have z : (hidT h H).get? b = none := PySem.W.hideAll_none (trk h H) hm
    rw [z] at e; cases e
def allNews (g h : Heap) (L : Addr) : List (Addr × Obj) := (List.range h.objs.size).filterMap fun a => if a = L ∨ (g.get? a).isSome = true then none else (h.get? a).map fun o => (a, o)
def rest (g h : Heap) (L d : Addr) : List (Addr × Obj) := (allNews g h L).filter fun p => decide (p.1 ≠ d)
end L2
namespace L2
open PySem PySem.Spec PyProof.Rows
structure Mod (K : PySem.W.Frag) (mg : Str → Option Value) (base : Heap) : Prop where
  kin : K.In base
  glob : base.Ns mainGlobals mg
  blt : ∃ mb, base.Ns builtinsNs mb ∧ ∀ x : Str, x ≠ "__name__" → mb x = bootBuiltins x
  nolimit : base.NoLimit
structure Cx where
  prog : Program
  w : World
  K : PySem.W.Frag
  mg : Str → Option Value
  base : Heap
  A : Around
  N : List Str
  s₀ : Shared
  H₀ : Hp
  env : Env
  outer : List Env
  stack : List Env
  ex : List Addr
  fn : Str → Bool
  calm : Bool
  pn : List (Addr × Obj)
  xe : Value → Shared → Prop
def frs (l : List Env) : List Addr := l.filterMap (·.frame)
abbrev Cx.fs (X : Cx) : List Addr := frs X.outer
def Vis (sc : Scope) (x : Str) : Prop := sc.names.lookup x = some .local ∨ sc.names.lookup x = some .cell ∨ sc.names.lookup x = some .free
def Loc (sc : Scope) (x : Str) : Prop := sc.names.lookup x = some .local ∨ sc.names.lookup x = some .cell
def Look (env : Env) (h : Heap) (m : Str → Option Value) (x : Str) (u : Value) : Prop :=
  (env.kindOf x = some .local ∧ m x = some u) ∨ ((env.kindOf x = some .cell ∨ env.kindOf x = some .free) ∧ ∃ c, env.cells.lookup x = some c ∧ h.IsCell c (some u))
structure Cx.Ok (X : Cx) : Prop where
  mod : Mod X.K X.mg X.base
  kind : X.env.scope.kind = .function
  glob : X.env.globals = mainGlobals
  blt : X.env.builtins = builtinsNs
  above : X.s₀.heap.objs.size ≤ X.env.locals
  inj : ∀ x y c, X.env.cells.lookup x = some c → X.env.cells.lookup y = some c → x = y
  has : ∀ x, (X.env.kindOf x = some .cell ∨ X.env.kindOf x = some .free) → ∃ c, X.env.cells.lookup x = some c
  cab : ∀ x c, X.fn x = true → X.env.cells.lookup x = some c → X.s₀.heap.objs.size ≤ c
  hd : X.calm = true → X.A.handled = none
  frames : X.A.frames = some X.stack
  stk : X.stack = X.outer ∨ (X.stack = X.env :: X.outer ∧ X.env.frame = some X.env.locals)
  exf : ∀ b ∈ X.ex, b ≠ X.env.locals ∧ ∀ x c, X.env.cells.lookup x = some c → c ≠ b
  bs : ∀ b o, X.base.get? b = some o → X.s₀.heap.get? b = some o ∧ X.H₀ b = none
  bsz : X.base.objs.size ≤ X.s₀.heap.objs.size
  noex : ∀ b o, X.base.get? b = some o → b ∉ X.ex
  exfs : ∀ b ∈ X.ex, b ∉ X.fs
  funs : X.s₀.heap.FunFrames X.base X.outer
  frf : ∀ b ∈ X.fs, X.H₀ b = none
structure Inv (X : Cx) (pins : List (Addr × Obj)) (σ : List (Option V)) (H : Hp) (s : Shared) : Prop where
  ok : X.Ok
  os : s.os = X.s₀.os
  bare : AllBare s.gens
  base : Un X.fs X.ex X.H₀ H X.s₀.heap s.heap
  loc : ∃ m, s.heap.Ns X.env.locals m ∧ ∀ (i : Nat) (x : Str) (v : V), X.N[i]? = some x → σ[i]? = some (some v) → Vis X.env.scope x → ∃ u, RelV v u ∧ Look X.env s.heap m x u
  cell : ∀ x c, X.env.cells.lookup x = some c → ∃ v, s.heap.IsCell c v
  free : H X.env.locals = none
  freeC : ∀ x c, X.env.cells.lookup x = some c → H c = none
  pin : ∀ p ∈ X.pn ++ pins, s.heap.get? p.1 = some p.2 ∧ H p.1 = none ∧ p.1 ≠ X.env.locals ∧ p.1 ∉ X.fs ∧ ∀ v, p.2.data ≠ .cell v
  hok : HOk X.prog X.w H s.heap
  len : σ.length = X.N.length
section
variable {X : Cx} {pins : List (Addr × Obj)} {σ : List (Option V)} {H H' : Hp} {s : Shared} {h' : Heap}
theorem Cx.Ok.nofr (ok : X.Ok) {b : Addr} {o : Obj} (e : X.base.get? b = some o) : b ∉ X.fs := fun hb => by
  have := (ok.funs.mem hb).1
  rw [e] at this; cases this
theorem Inv.bs (I : Inv X pins σ H s) : ∀ b o, X.base.get? b = some o → s.heap.get? b = some o ∧ H b = none := fun b o e =>
  ⟨I.base.keep b o (I.ok.bs b o e).1 (I.ok.bs b o e).2 (I.ok.nofr e) (I.ok.noex b o e), I.base.free b o (I.ok.bs b o e).1 (I.ok.bs b o e).2 (I.ok.noex b o e)⟩
theorem Inv.bk (I : Inv X pins σ H s) : ∀ b o, X.base.get? b = some o → s.heap.get? b = some o := fun b o e => (I.bs b o e).1
theorem Inv.mod (I : Inv X pins σ H s) : Mod X.K X.mg X.base := I.ok.mod
theorem Inv.kIn (I : Inv X pins σ H s) : X.K.In s.heap := I.ok.mod.kin.keeps I.bk
theorem Inv.fr (I : Inv X pins σ H s) : ∃ m, Fr X.base X.env.locals s.heap m :=
  let ⟨m, hn, _⟩ := I.loc
  ⟨m, hn, I.bk, Nat.le_trans I.ok.bsz I.ok.above⟩
theorem Inv.lt (I : Inv X pins σ H s) : X.env.locals < s.heap.objs.size := let ⟨_, hn, _⟩ := I.loc; hn.lt
theorem Inv.sz (I : Inv X pins σ H s) : X.s₀.heap.objs.size ≤ s.heap.objs.size := Nat.le_trans I.ok.above (Nat.le_of_lt I.lt)
theorem Inv.nofs (I : Inv X pins σ H s) {a : Addr} (h : s.heap.objs.size ≤ a) : a ∉ X.fs := fun hb => by
  obtain ⟨_, o, ho, _⟩ := I.ok.funs.mem hb
  exact absurd (Nat.lt_of_lt_of_le (Heap.lt_size ho) (Nat.le_trans I.sz h)) (Nat.lt_irrefl _)
theorem Inv.cne (I : Inv X pins σ H s) : ∀ x c, X.env.cells.lookup x = some c → c ≠ X.env.locals := fun x c e z => by
  obtain ⟨v, o, ho, hd⟩ := I.cell x c e
  obtain ⟨m, ⟨o', es, ep, ho', hd', _⟩, _⟩ := I.loc
  rw [z, ho'] at ho; cases ho; rw [hd'] at hd; cases hd
theorem Inv.funs (I : Inv X pins σ H s) : s.heap.FunFrames X.base X.outer := by
  have all : ∀ (l : List Env), (∀ b ∈ frs l, b ∈ X.fs) → X.s₀.heap.FunFrames X.base l → s.heap.FunFrames X.base l := by
    intro l
    induction l with
    | nil => intro _ _; trivial
    | cons env r ih =>
      intro hs hl
      obtain ⟨hk, ⟨L, o, hf, hn, ho, hd⟩, hr⟩ := hl
      have hL : L ∈ X.fs := hs L (by unfold frs; rw [List.filterMap_cons, hf]; exact List.mem_cons_self)
      obtain ⟨sl, e⟩ := I.base.slot L o ho (I.ok.frf L hL) hL fun z => I.ok.exfs L z hL
      exact ⟨hk, ⟨L, _, hf, hn, e, hd⟩, ih (fun b hb => hs b (by unfold frs; rw [List.filterMap_cons, hf]; exact List.mem_cons_of_mem _ hb)) hr⟩
  exact all X.outer (fun _ hb => hb) I.ok.funs
theorem Inv.stack (I : Inv X pins σ H s) : s.heap.FunFrames X.base X.stack := by
  rcases I.ok.stk with e | ⟨e, hf⟩
  · rw [e]; exact I.funs
  · rw [e]
    obtain ⟨m, hn, _⟩ := I.loc
    refine .cons (by rw [I.ok.kind]; decide) hf hn ?_ I.funs
    exact Heap.get?_none_of_le (Nat.le_trans I.ok.bsz I.ok.above)
theorem Inv.stkSub (I : Inv X pins σ H s) : ∀ b ∈ frs X.stack, b ∈ X.env.locals :: X.fs := fun b hb => by
  rcases I.ok.stk with e | ⟨e, hf⟩
  · rw [e] at hb; exact List.mem_cons_of_mem _ hb
  · rw [e] at hb
    unfold frs at hb
    rw [List.filterMap_cons, hf] at hb
    exact hb
theorem Inv.stkFree (I : Inv X pins σ H s) : ∀ b ∈ frs X.stack, H b = none := fun b hb => by
  rcases List.mem_cons.mp (I.stkSub b hb) with e | hb
  · rw [e]; exact I.free
  · obtain ⟨_, o, ho, _⟩ := I.ok.funs.mem hb
    exact I.base.free b o ho (I.ok.frf b hb) fun z => I.ok.exfs b z hb
theorem Inv.step {g' : Array GenState} {t' : Nat} {d' : Drawn} {ch : List Addr} (I : Inv X pins σ H s)
    (hch : ∀ b ∈ ch, (b ∈ X.ex ∨ X.s₀.heap.objs.size ≤ b) ∧ b ≠ X.env.locals ∧ (∀ x c, X.env.cells.lookup x = some c → c ≠ b) ∧ ∀ p ∈ X.pn ++ pins, p.1 ≠ b)
    (keep : ∀ b o, b ≠ X.env.locals → b ∉ X.fs → b ∉ ch → s.heap.get? b = some o → H b = none → h'.get? b = some o)
    (slot : ∀ b o, b ≠ X.env.locals → b ∈ X.fs → b ∉ ch → s.heap.get? b = some o → H b = none → ∃ sl, h'.get? b = some { o with slots := sl }) (free : ∀ b o, b ∉ ch → s.heap.get? b = some o → H b = none → H' b = none)
    (there : ∀ b o, b ∉ ch → s.heap.get? b = some o → ∃ o', h'.get? b = some o')
    (tups : ∀ b xs, H b = some (.tup xs) → H' b = some (.tup xs)) (frzs : ∀ b o u, H b = some (.frz o u) → H' b = some (.frz o u)) (tbls : ∀ b ps, H b = some (.tbl ps) → ∃ more, H' b = some (.tbl (ps ++ more)))
    (ns : ∀ m, s.heap.Ns X.env.locals m → h'.Ns X.env.locals m) (hok : HOk X.prog X.w H' h') (hg : AllBare g') :
    Inv X pins σ H' { s with heap := h', gens := g', drawn := d', toks := t' } := by
  have neL : ∀ b o, X.s₀.heap.get? b = some o → b ≠ X.env.locals := fun b o e => Nat.ne_of_lt (Nat.lt_of_lt_of_le (Heap.lt_size e) I.ok.above)
  have neC : ∀ b o, X.s₀.heap.get? b = some o → b ∉ X.ex → b ∉ ch := fun b o e hx hb => by
    rcases (hch b hb).1 with z | z
    · exact hx z
    · exact absurd (Nat.lt_of_lt_of_le (Heap.lt_size e) z) (Nat.lt_irrefl _)
  have cellK : ∀ x c, X.env.cells.lookup x = some c → ∀ v, s.heap.IsCell c v → h'.IsCell c v := fun x c e v ⟨o, ho, hd⟩ => by
    have nch : c ∉ ch := fun z => (hch c z).2.2.1 x c e rfl
    by_cases hc : c ∈ X.fs
    · obtain ⟨sl, q⟩ := slot c o (I.cne x c e) hc nch ho (I.freeC x c e)
      exact ⟨_, q, hd⟩
    · exact ⟨o, keep c o (I.cne x c e) hc nch ho (I.freeC x c e), hd⟩
  refine ⟨I.ok, I.os, hg, ⟨fun b o e n hb hx => ?_, fun b o e n hb hx => ?_, fun b o e n hx => ?_, fun b o e hx => ?_, fun b xs e => tups b xs (I.base.tups b xs e), fun b o xs e => frzs b o xs (I.base.frzs b o xs e), fun b ps e => ?_⟩, ?_, fun x c e => ?_, ?_, fun x c e => ?_, fun p hp => ?_, hok, I.len⟩
  · exact keep b o (neL b o e) hb (neC b o e hx) (I.base.keep b o e n hb hx) (I.base.free b o e n hx)
  · obtain ⟨sl, e1⟩ := I.base.slot b o e n hb hx
    obtain ⟨sl', e2⟩ := slot b _ (neL b o e) hb (neC b o e hx) e1 (I.base.free b o e n hx)
    exact ⟨sl', e2⟩
  · obtain ⟨o', e1⟩ := I.base.there b o e hx
    exact free b o' (neC b o e hx) e1 (I.base.free b o e n hx)
  · obtain ⟨o', e1⟩ := I.base.there b o e hx
    exact there b o' (neC b o e hx) e1
  · obtain ⟨m1, e1⟩ := I.base.tbls b ps e
    obtain ⟨m2, e2⟩ := tbls b _ e1
    exact ⟨m1 ++ m2, by rw [e2, Array.append_assoc]⟩
  · obtain ⟨m, hn, hl⟩ := I.loc
    refine ⟨m, ns m hn, fun i x v e1 e2 e3 => ?_⟩
    obtain ⟨u, r, l⟩ := hl i x v e1 e2 e3
    refine ⟨u, r, ?_⟩
    rcases l with l | ⟨k, c, e, z⟩
    · exact .inl l
    · exact .inr ⟨k, c, e, cellK x c e _ z⟩
  · obtain ⟨v, z⟩ := I.cell x c e
    exact ⟨v, cellK x c e v z⟩
  · obtain ⟨m, ⟨o, _, _, ho, _⟩, _⟩ := I.loc
    exact free _ o (fun z => (hch _ z).2.1 rfl) ho I.free
  · obtain ⟨v, o, ho, hd⟩ := I.cell x c e
    exact free c o (fun z => (hch c z).2.2.1 x c e rfl) ho (I.freeC x c e)
  · obtain ⟨e, n, ne, nf, d⟩ := I.pin p hp
    have nch : p.1 ∉ ch := fun z => (hch p.1 z).2.2.2 p hp rfl
    exact ⟨keep p.1 p.2 ne nf nch e n, free p.1 p.2 nch e n, ne, nf, d⟩
theorem Inv.un {t' : Nat} (I : Inv X pins σ H s) (u : Un X.fs [] H H' s.heap h') (hok : HOk X.prog X.w H' h') : Inv X pins σ H' { s with heap := h', toks := t' } := by
  obtain ⟨m, ⟨o, es, ep, ho, r⟩, _⟩ := id I.loc
  obtain ⟨sl, hL⟩ := u.any ho I.free (by simp)
  exact I.step (g' := s.gens) (d' := s.drawn) (ch := []) (fun _ z => nomatch z) (fun b o _ hb _ e n => u.keep b o e n hb (by simp)) (fun b o _ hb _ e n => u.slot b o e n hb (by simp)) (fun b o _ e n => u.free b o e n (by simp)) (fun b o _ e => u.there b o e (by simp)) u.tups u.frzs u.tbls (fun m' hm => by
    obtain ⟨o', es', ep', ho', r'⟩ := hm
    rw [ho] at ho'; cases ho'
    exact ⟨_, es', ep', hL, r'⟩) hok I.bare
theorem Inv.call {g' : Array GenState} {t' : Nat} {d' : Drawn} {ch : List Addr} (I : Inv X pins σ H s) (u : Un (frs X.stack) ch H H' s.heap h') (hok : HOk X.prog X.w H' h') (hg : AllBare g')
    (hch : ∀ b ∈ ch, (b ∈ X.ex ∨ X.s₀.heap.objs.size ≤ b) ∧ b ≠ X.env.locals ∧ (∀ x c, X.env.cells.lookup x = some c → c ≠ b) ∧ ∀ p ∈ X.pn ++ pins, p.1 ≠ b) :
    Inv X pins σ H' { s with heap := h', gens := g', drawn := d', toks := t' } := by
  obtain ⟨m, ⟨o, es, ep, ho, r⟩, _⟩ := id I.loc
  obtain ⟨sl, hL⟩ := u.any ho I.free fun z => (hch _ z).2.1 rfl
  exact I.step (ch := ch) hch (fun b o hL hb hc e n => u.keep b o e n (fun z => (List.mem_cons.mp (I.stkSub b z)).elim hL hb) hc) (fun b o _ _ hc e n => u.any e n hc) (fun b o hc e n => u.free b o e n hc) (fun b o hc e => u.there b o e hc) u.tups u.frzs u.tbls (fun m' hm => by
    obtain ⟨o', es', ep', ho', r'⟩ := hm
    rw [ho] at ho'; cases ho'
    exact ⟨_, es', ep', hL, r'⟩) hok hg
theorem Inv.turned {t' : Nat} {it : Addr} (I : Inv X pins σ H s) (k : ∀ b o, b ≠ it → s.heap.get? b = some o → h'.get? b = some o) (hn : H it = none) (hL : it ≠ X.env.locals)
    (h1 : it ∈ X.ex ∨ X.s₀.heap.objs.size ≤ it) (h2 : ∀ x c, X.env.cells.lookup x = some c → c ≠ it) (h3 : ∀ p ∈ X.pn ++ pins, p.1 ≠ it) : Inv X pins σ H { s with heap := h', toks := t' } := by
  have nit : ∀ b u, H b = some u → b ≠ it := fun b u e z => by rw [z, hn] at e; cases e
  refine I.step (g' := s.gens) (d' := s.drawn) (ch := [it]) (fun b hb => ?_) (fun b o _ _ hc e _ => k b o (fun z => hc (by simp [z])) e) (fun b o _ _ hc e _ => ⟨o.slots, k b o (fun z => hc (by simp [z])) e⟩) (fun _ _ _ _ n => n)
    (fun b o hc e => ⟨o, k b o (fun z => hc (by simp [z])) e⟩) (fun _ _ e => e) (fun _ _ _ e => e) (fun b ps e => ⟨#[], by rw [e]; simp⟩) (fun m hm => ?_) (fun b u e => ?_) I.bare
  · have e : b = it := by simpa using hb
    subst e
    exact ⟨h1, hL, h2, h3⟩
  · obtain ⟨o, es, ep, ho, r⟩ := hm
    exact ⟨o, es, ep, k _ o (Ne.symm hL) ho, r⟩
  · refine (I.hok b u e).stay (fun c v hc q => k c v ?_ q) (fun _ q => q) fun _ _ q => q
    rcases hc with z | z
    · rw [z]; exact nit b u e
    · exact nit c _ z
theorem Inv.tok (I : Inv X pins σ H s) (t : Nat) : Inv X pins σ H { s with toks := t } := I.un (h' := s.heap) (t' := t) Un.refl I.hok
theorem Inv.kept {t' : Nat} (I : Inv X pins σ H s) (k : ∀ b u, s.heap.get? b = some u → h'.get? b = some u) : Inv X pins σ H { s with heap := h', toks := t' } := I.un (Un.kept k) (I.hok.kept k)
theorem Inv.laid {a : Addr} {o : HO} {t' : Nat} (I : Inv X pins σ H s) (k : ∀ b u, s.heap.get? b = some u → h'.get? b = some u) (hp : s.heap.objs.size ≤ a) (new : ObjOk X.prog X.w (upd H a o) h' a o) :
    Inv X pins σ (upd H a o) { s with heap := h', toks := t' } := I.un (Un.laid k hp (I.hok.fresh hp)) (I.hok.laid k hp new)
theorem Inv.write {x e : Addr} {o : HO} {t' : Nat} (I : Inv X pins σ H s) (mu : Mut (H x)) (he : e = x ∨ H e = some (.own x)) (k : ∀ b u, b ≠ e → s.heap.get? b = some u → h'.get? b = some u) (heo : ∃ u, h'.get? e = some u)
    (new : ObjOk X.prog X.w (upd H x o) h' x o) : Inv X pins σ (upd H x o) { s with heap := h', toks := t' } := I.un (Un.write mu he k heo) (I.hok.write mu he k heo new)
theorem Inv.pins_of {pins' : List (Addr × Obj)} (I : Inv X pins σ H s) (h : ∀ p ∈ pins', s.heap.get? p.1 = some p.2 ∧ H p.1 = none ∧ p.1 ≠ X.env.locals ∧ p.1 ∉ X.fs ∧ ∀ v, p.2.data ≠ .cell v) : Inv X pins' σ H s :=
  ⟨I.ok, I.os, I.bare, I.base, I.loc, I.cell, I.free, I.freeC, fun p hp => (List.mem_append.mp hp).elim (fun z => I.pin p (List.mem_append_left _ z)) (h p), I.hok, I.len⟩
theorem nodup_ix {N : List Str} (hN : N.Nodup) {i j : Nat} {x : Str} (a : N[i]? = some x) (b : N[j]? = some x) : i = j := by
  obtain ⟨h1, e1⟩ := List.getElem?_eq_some_iff.mp a
  obtain ⟨h2, e2⟩ := List.getElem?_eq_some_iff.mp b
  exact (List.getElem_inj hN).mp (e1.trans e2.symm)
theorem store_ok2 {M : Model} {A : Around} {E : Value → Shared → Prop} {i : Nat} {x : Str} {v : V} {u : Value} {Q : Unit → Shared → Prop} (I : Inv X pins σ H s) (hN : X.N.Nodup) (hi : X.N[i]? = some x) (hx : Loc X.env.scope x) (r : RelV v u)
    (h : ∀ s', Inv X pins (σ.set i (some v)) H s' → (∃ a, Heap.SameBut a s.heap s'.heap ∧ (a = X.env.locals ∨ X.env.cells.lookup x = some a)) → Q () s') (hf : X.fn x = true ∨ X.env.scope.names.lookup x = some .local := by first | exact .inl rfl | exact .inr rfl | assumption) : wpAny M A (storeName X.env x u) Q E s := by
  obtain ⟨m, hn, hl⟩ := id I.loc
  have hcls : (X.env.scope.kind == .class || (X.env.scope.kind == .module && X.env.locals != X.env.globals)) = false := by rw [I.ok.kind]; rfl
  have hiσ : i < σ.length := by rw [I.len]; exact (List.getElem?_eq_some_iff.mp hi).1
  have cne := I.cne
  have tracked : ∀ {a : Addr} {h' : Heap}, (∃ o, s.heap.get? a = some o ∧ H a = none) → Heap.SameBut a s.heap h' → HOk X.prog X.w H h' := fun {a h'} ha hs b ob e => by
    obtain ⟨_, _, hfree⟩ := ha
    refine (I.hok b ob e).stay (fun c w' hc q => (hs.2 c ?_).trans q) (fun _ q => q) fun _ _ q => q
    rintro rfl
    rcases hc with rfl | hc
    · rw [hfree] at e; cases e
    · rw [hfree] at hc; cases hc
  rcases hx with hk | hk
  · refine wpAny_storeName_local hk hn (fun h' hn' hs => ?_) hcls
    obtain ⟨oL, _, _, hoL, _⟩ := id hn
    refine h _ ⟨I.ok, I.os, I.bare, ⟨fun b o e n hb hx => ?_, fun b o e n hb hx => ?_, I.base.free, fun b o e hx => ?_, I.base.tups, I.base.frzs, I.base.tbls⟩, ⟨_, hn', fun j y v' e1 e2 e3 => ?_⟩, fun y c e => ?_, I.free, I.freeC, fun p hp => ?_, tracked ⟨oL, hoL, I.free⟩ hs, by simpa using I.len⟩ ⟨_, hs, .inl rfl⟩
    · exact (hs.2 b (Nat.ne_of_lt (Nat.lt_of_lt_of_le (Heap.lt_size e) I.ok.above))).trans (I.base.keep b o e n hb hx)
    · obtain ⟨sl, e1⟩ := I.base.slot b o e n hb hx
      exact ⟨sl, (hs.2 b (Nat.ne_of_lt (Nat.lt_of_lt_of_le (Heap.lt_size e) I.ok.above))).trans e1⟩
    · obtain ⟨o', e1⟩ := I.base.there b o e hx
      exact ⟨o', (hs.2 b (Nat.ne_of_lt (Nat.lt_of_lt_of_le (Heap.lt_size e) I.ok.above))).trans e1⟩
    · by_cases hj : j = i
      · subst hj
        rw [hi] at e1; cases e1
        rw [List.getElem?_set_self hiσ] at e2
        cases e2
        exact ⟨u, r, .inl ⟨hk, by simp⟩⟩
      · rw [List.getElem?_set_ne (Ne.symm hj)] at e2
        obtain ⟨u', r', q⟩ := hl j y v' e1 e2 e3
        refine ⟨u', r', ?_⟩
        rcases q with ⟨k, e⟩ | ⟨k, c, e, z⟩
        · refine .inl ⟨k, ?_⟩
          have : y ≠ x := fun e => hj (nodup_ix hN e1 (e ▸ hi))
          simp [this, e]
        · exact .inr ⟨k, c, e, z.sameBut hs (cne y c e)⟩
    · obtain ⟨w', z⟩ := I.cell y c e
      exact ⟨w', z.sameBut hs (cne y c e)⟩
    · obtain ⟨e, n, ne, nf, d⟩ := I.pin p hp
      exact ⟨(hs.2 p.1 ne).trans e, n, ne, nf, d⟩
  · have hfn : X.fn x = true := by
      rcases hf with z | z
      · exact z
      · rw [z] at hk; cases hk
    obtain ⟨c, hc⟩ := I.ok.has x (.inl hk)
    obtain ⟨w', z⟩ := I.cell x c hc
    refine wpAny_storeName_cell I.ok.kind hk hc z (fun h' hc' hs => ?_)
    obtain ⟨oc, hoc, hocd⟩ := id z
    refine h { s with heap := h' } ⟨I.ok, I.os, I.bare, ⟨fun b o e n hb hx => ?_, fun b o e n hb hx => ?_, I.base.free, fun b o e hx => ?_, I.base.tups, I.base.frzs, I.base.tbls⟩, ⟨m, hn.sameBut hs (Ne.symm (cne x c hc)), fun j y v' e1 e2 e3 => ?_⟩, fun y c' e => ?_, I.free, I.freeC, fun p hp => ?_, tracked ⟨oc, hoc, I.freeC x c hc⟩ hs, by simpa using I.len⟩ ⟨c, hs, .inr hc⟩
    · exact (hs.2 b (Nat.ne_of_lt (Nat.lt_of_lt_of_le (Heap.lt_size e) (I.ok.cab x c hfn hc)))).trans (I.base.keep b o e n hb hx)
    · obtain ⟨sl, e1⟩ := I.base.slot b o e n hb hx
      exact ⟨sl, (hs.2 b (Nat.ne_of_lt (Nat.lt_of_lt_of_le (Heap.lt_size e) (I.ok.cab x c hfn hc)))).trans e1⟩
    · obtain ⟨o', e1⟩ := I.base.there b o e hx
      exact ⟨o', (hs.2 b (Nat.ne_of_lt (Nat.lt_of_lt_of_le (Heap.lt_size e) (I.ok.cab x c hfn hc)))).trans e1⟩
    · by_cases hj : j = i
      · subst hj
        rw [hi] at e1; cases e1
        rw [List.getElem?_set_self hiσ] at e2
        cases e2
        exact ⟨u, r, .inr ⟨.inl hk, c, hc, hc'⟩⟩
      · rw [List.getElem?_set_ne (Ne.symm hj)] at e2
        obtain ⟨u', r', q⟩ := hl j y v' e1 e2 e3
        refine ⟨u', r', ?_⟩
        rcases q with q | ⟨k, c', e, z'⟩
        · exact .inl q
        · refine .inr ⟨k, c', e, z'.sameBut hs ?_⟩
          rintro rfl
          exact hj (nodup_ix hN e1 (I.ok.inj _ _ _ e hc ▸ hi))
    · by_cases hcc : c' = c
      · subst hcc; exact ⟨_, hc'⟩
      · obtain ⟨w2, z2⟩ := I.cell y c' e
        exact ⟨w2, z2.sameBut hs hcc⟩
    · obtain ⟨e, n, ne, nf, d⟩ := I.pin p hp
      refine ⟨(hs.2 p.1 ?_).trans e, n, ne, nf, d⟩
      intro q
      rw [q, hoc] at e
      have q' : oc = p.2 := Option.some.inj e
      exact d w' (by rw [← q']; exact hocd)
theorem store_ok {M : Model} {A : Around} {E : Value → Shared → Prop} {i : Nat} {x : Str} {v : V} {u : Value} {Q : Unit → Shared → Prop} (I : Inv X pins σ H s) (hN : X.N.Nodup) (hi : X.N[i]? = some x) (hx : Loc X.env.scope x) (r : RelV v u)
    (h : ∀ s', Inv X pins (σ.set i (some v)) H s' → Q () s') (hf : X.fn x = true ∨ X.env.scope.names.lookup x = some .local := by first | exact .inl rfl | exact .inr rfl | assumption) : wpAny M A (storeName X.env x u) Q E s :=
  store_ok2 I hN hi hx r (fun s' I' _ => h s' I') hf
theorem Inv.call' {s' : Shared} {ch : List Addr} (I : Inv X pins σ H s) (ho : s'.os = s.os) (u : Un (frs X.stack) ch H H' s.heap s'.heap) (hok : HOk X.prog X.w H' s'.heap) (hg : AllBare s'.gens)
    (hch : ∀ b ∈ ch, (b ∈ X.ex ∨ X.s₀.heap.objs.size ≤ b) ∧ b ≠ X.env.locals ∧ (∀ x c, X.env.cells.lookup x = some c → c ≠ b) ∧ ∀ p ∈ X.pn ++ pins, p.1 ≠ b) : Inv X pins σ H' s' := by
  obtain ⟨h', g', d', t', o'⟩ := s'
  have e : o' = s.os := ho
  subst e
  exact I.call (g' := g') (t' := t') (d' := d') u hok hg hch
end
abbrev XK := Value → Option Addr → Hp → Prop
abbrev St := List (Option V)
abbrev VK := V → Hp → Prop
abbrev TE := St → Hp → VK → Prop
abbrev TT := St → Hp → (Bool → Hp → Prop) → Prop
abbrev TA := St → Hp → (List V → Hp → Prop) → Prop
structure Ends where
  nx : St → Hp → Prop
  rt : VK
  bk : St → Hp → Prop := fun _ _ => False
  ct : St → Hp → Prop := fun _ _ => False
abbrev TS := Ends → St → Hp → Prop
def EP (X : Cx) (pins : List (Addr × Obj)) (σ : St) (Q : VK) (u : Value) (s' : Shared) : Prop := ∃ v H', Inv X pins σ H' s' ∧ RelV v u ∧ Q v H'
def TP (X : Cx) (pins : List (Addr × Obj)) (σ : St) (Q : Bool → Hp → Prop) (b : Bool) (s' : Shared) : Prop := ∃ H', Inv X pins σ H' s' ∧ Q b H'
def AP (X : Cx) (pins : List (Addr × Obj)) (σ : St) (Q : List V → Hp → Prop) (us : List Value) (s' : Shared) : Prop := ∃ vs H', Inv X pins σ H' s' ∧ Vals vs us ∧ Q vs H'
def SP (X : Cx) (pins : List (Addr × Obj)) (D : Ends) (f : Flow) (s' : Shared) : Prop :=
  match f with
  | .next => ∃ σ' H', Inv X pins σ' H' s' ∧ D.nx σ' H'
  | .brk => ∃ σ' H', Inv X pins σ' H' s' ∧ D.bk σ' H'
  | .cont => ∃ σ' H', Inv X pins σ' H' s' ∧ D.ct σ' H'
  | .ret u => ∃ v σ' H', Inv X pins σ' H' s' ∧ RelV v u ∧ D.rt v H'
def PE (X : Cx) (e : Expr) (t : TE) : Prop :=
  ∀ (pins : List (Addr × Obj)) (s : Shared) (σ : St) (H : Hp) (Q : VK), Inv X pins σ H s → t σ H Q → wpAny (model X.prog X.w) X.A (eval e X.env) (EP X pins σ Q) X.xe s
def PT (X : Cx) (e : Expr) (t : TT) : Prop :=
  ∀ (pins : List (Addr × Obj)) (s : Shared) (σ : St) (H : Hp) (Q : Bool → Hp → Prop), Inv X pins σ H s → t σ H Q → wpAny (model X.prog X.w) X.A (isTrue e X.env (eval e X.env)) (TP X pins σ Q) X.xe s
def PW (X : Cx) (e : Expr) (t : TT) : Prop :=
  ∀ (whole : Sem Value) (pins : List (Addr × Obj)) (s : Shared) (σ : St) (H : Hp) (Q : Bool → Hp → Prop), Inv X pins σ H s → t σ H Q → wpAny (model X.prog X.w) X.A (isTrue e X.env whole) (TP X pins σ Q) X.xe s
theorem PW.pt {X : Cx} {e : Expr} {t : TT} (h : PW X e t) : PT X e t := h _
def PA (X : Cx) (es : List Expr) (t : TA) : Prop :=
  ∀ (pos : Pos) (pins : List (Addr × Obj)) (s : Shared) (σ : St) (H : Hp) (Q : List V → Hp → Prop), Inv X pins σ H s → t σ H Q → wpAny (model X.prog X.w) X.A (spliced (backTo pos (starEach es X.env))) (AP X pins σ Q) X.xe s
def PS (X : Cx) (st : Stmt) (t : TS) : Prop :=
  ∀ (pins : List (Addr × Obj)) (s : Shared) (σ : St) (H : Hp) (D : Ends), Inv X pins σ H s → t D σ H → wpAny (model X.prog X.w) X.A (exec st X.env) (SP X pins D) X.xe s
def PSs (X : Cx) (st : List Stmt) (t : TS) : Prop :=
  ∀ (pins : List (Addr × Obj)) (s : Shared) (σ : St) (H : Hp) (D : Ends), Inv X pins σ H s → t D σ H → wpAny (model X.prog X.w) X.A (execs st X.env) (SP X pins D) X.xe s
theorem thn {α : Type} {t : Sem α} {Q Q' : α → Shared → Prop} {M : Model} {A : Around} {E : Value → Shared → Prop} {s : Shared} (h : wpAny M A t Q E s) (hQ : ∀ a s, Q a s → Q' a s) : wpAny M A t Q' E s := wpAny_mono h hQ fun _ _ x => x
end L2
namespace L2
open PySem PySem.Spec PyProof.Rows
section
variable {X : Cx}
def tVar (i : Nat) : TE := fun σ H Q => ∃ v, σ[i]? = some (some v) ∧ Q v H
def tC (v : V) : TE := fun _ H Q => Q v H
theorem pe_var {i : Nat} {x : Str} {pos : Pos} (hN : X.N[i]? = some x) (hv : Vis X.env.scope x) (hd : (x == ("__debug__" : Str)) = false := by decide) (hcd : (x == ("__classdict__" : Str)) = false := by decide) : PE X (.Name x pos) (tVar i) := by
  intro pins s σ H Q I h
  obtain ⟨v, e, h⟩ := h
  obtain ⟨m, hn, hl⟩ := I.loc
  obtain ⟨u, r, l⟩ := hl i x v hN e hv
  have fin : EP X pins σ Q u s := ⟨v, H, I, r, h⟩
  rcases l with ⟨hk, hm⟩ | ⟨hk, c, hc, hcell⟩
  · exact wpAny_Name (wpAny_loadName_local I.ok.kind hk hn hm fin) hd
  · rcases hk with hk | hk
    · exact wpAny_Name (wpAny_loadName_cell I.ok.kind hk hc hcell fin) hd
    · exact wpAny_Name (wpAny_loadName_free I.ok.kind hk hc hcell fin hcd) hd
theorem pe_int {i j pos} : PE X (.Constant (.int i) j pos) (tC (.int i)) := fun _ _ _ H _ I h => wpAny_Constant_int ⟨.int i, H, I.tok _, ⟨_, rfl⟩, h⟩
theorem pe_bl {b j pos} : PE X (.Constant (.bool b) j pos) (tC (.bl b)) := fun _ _ _ H _ I h => Constant_bool ⟨.bl b, H, I, rfl, h⟩
theorem pe_non {j pos} : PE X (.Constant .none j pos) (tC .non) := fun _ _ _ H _ I h => Constant_none ⟨.non, H, I, rfl, h⟩
theorem pe_str {x j pos} : PE X (.Constant (.str x) j pos) (tC (.str x)) := fun _ _ _ H _ I h => Calls.Constant_str ⟨.str x, H, I.tok _, ⟨_, rfl⟩, h⟩
def Gl (X : Cx) (x : Str) : Prop := X.env.kindOf x = some .globalImplicit
theorem ld_glob {E : Value → Shared → Prop} {pins : List (Addr × Obj)} {s : Shared} {σ : St} {H : Hp} {x : Str} {u : Value} {pos : Pos} {Q : Value → Shared → Prop} (I : Inv X pins σ H s) (hg : Gl X x) (hm : X.mg x = some u) (h : Q u s)
    (hd : (x == ("__debug__" : Str)) = false := by decide) : wpAny (model X.prog X.w) X.A (eval (.Name x pos) X.env) Q E s :=
  Calls.Name_function_global I.ok.kind hg (Calls.loadGlobal_global (by rw [I.ok.glob]; exact I.mod.glob.keeps I.bk) hm h) hd
theorem ld_blt {E : Value → Shared → Prop} {pins : List (Addr × Obj)} {s : Shared} {σ : St} {H : Hp} {x : Str} {u : Value} {pos : Pos} {Q : Value → Shared → Prop} (I : Inv X pins σ H s) (hg : Gl X x) (hm : X.mg x = none) (hv : bootBuiltins x = some u) (h : Q u s)
    (hn : x ≠ "__name__" := by decide) (hd : (x == ("__debug__" : Str)) = false := by decide) : wpAny (model X.prog X.w) X.A (eval (.Name x pos) X.env) Q E s := by
  obtain ⟨mb, h1, h2⟩ := I.mod.blt
  exact Calls.Name_function_global I.ok.kind hg (Calls.loadGlobal_builtin (by rw [I.ok.glob]; exact I.mod.glob.keeps I.bk) hm (by rw [I.ok.blt]; exact h1.keeps I.bk) ((h2 x hn).trans hv) h) hd
theorem pe_glob {x : Str} {v : V} {u : Value} {pos : Pos} (hg : Gl X x) (hm : X.mg x = some u) (r : RelV v u) (hd : (x == ("__debug__" : Str)) = false := by decide) : PE X (.Name x pos) (tC v) :=
  fun _ _ _ H _ I h => ld_glob I hg hm ⟨v, H, I, r, h⟩ hd
theorem pe_bltn {x : Str} {v : V} {u : Value} {pos : Pos} (hg : Gl X x) (hm : X.mg x = none) (hv : bootBuiltins x = some u) (r : RelV v u) (hn : x ≠ "__name__" := by decide) (hd : (x == ("__debug__" : Str)) = false := by decide) : PE X (.Name x pos) (tC v) :=
  fun _ _ _ H _ I h => ld_blt I hg hm hv ⟨v, H, I, r, h⟩ hn hd
variable {a b : Expr} {ta tb : TE} {pos : Pos}
def PC (X : Cx) (op : CmpOp) (a b : Expr) (t : TE) : Prop :=
  ∀ (pins : List (Addr × Obj)) (s : Shared) (σ : St) (H : Hp) (Q : VK), Inv X pins σ H s → t σ H Q →
    wpAny (model X.prog X.w) X.A (eval a X.env) (fun v s₁ => wpAny (model X.prog X.w) X.A (eval b X.env) (fun u s₂ => wpAny (model X.prog X.w) X.A (compareOp op v u) (EP X pins σ Q) X.xe s₂) X.xe s₁) X.xe s
def tB (t : TE) : TT := fun σ H Q => t σ H fun x H1 => ∃ c, x = .bl c ∧ Q c H1
theorem pt_cmp {op : CmpOp} {t : TE} (h : PC X op a b t) (h1 : behindInMarks op b = false := by first | exact nobehind _ (by decide) (by decide) | rfl) : PT X (.Compare a [op] [b] pos) (tB t) := by
  intro pins s σ H Q I hw
  refine wpAny_isTrue_Compare1 (thn (h pins s σ H _ I hw) fun v s1 h1 => thn h1 fun u s2 h2 => thn h2 fun c s3 ⟨x, H1, I1, r1, q1⟩ => ?_) h1
  obtain ⟨d, rfl, q⟩ := q1
  cases r1
  exact wpAny_truthy_bool ⟨H1, I1, q⟩
theorem pt_val {e : Expr} {t : TE} (h : PE X e t) (he : ∀ whole, isTrue e X.env whole = (do let v ← whole; standAt e.pos; holding [v] (truthy v)) := by intro _; rfl) : PT X e (tB t) := by
  intro pins s σ H Q I hw
  refine isTrue_plain (thn (h pins s σ H _ I hw) fun v s1 ⟨x, H1, I1, r1, q1⟩ => ?_) (he _)
  obtain ⟨d, rfl, q⟩ := q1
  cases r1
  exact wpAny_truthy_bool ⟨H1, I1, q⟩
variable {tA tB' : TT} {rest : List Expr}
def tAnd (t u : TT) : TT := fun σ H Q => t σ H fun c H1 => if c = true then u σ H1 Q else Q false H1
def tOr (t u : TT) : TT := fun σ H Q => t σ H fun c H1 => if c = true then Q true H1 else u σ H1 Q
def tNot (t : TT) : TT := fun σ H Q => t σ H fun c H1 => Q (!c) H1
theorem pw_and1 (ha : PT X a tA) : PW X (.BoolOp .And [a] pos) tA := by
  intro wh pins s σ H Q I h
  refine isTrue_and (thn (ha pins s σ H Q I h) fun c s1 e => ?_)
  cases c with
  | true => exact isTrue_and_nil e
  | false => exact e
theorem pw_or1 (ha : PT X a tA) : PW X (.BoolOp .Or [a] pos) tA := by
  intro wh pins s σ H Q I h
  refine isTrue_or (thn (ha pins s σ H Q I h) fun c s1 e => ?_)
  cases c with
  | false => exact isTrue_or_nil e
  | true => exact e
theorem pw_and (ha : PT X a tA) (hb : PW X (.BoolOp .And (b :: rest) pos) tB') : PW X (.BoolOp .And (a :: b :: rest) pos) (tAnd tA tB') := by
  intro wh pins s σ H Q I h
  refine isTrue_and (thn (ha pins s σ H _ I h) fun c s1 ⟨H1, I1, q1⟩ => ?_)
  cases c with
  | true => exact hb wh pins s1 σ H1 Q I1 q1
  | false => exact ⟨H1, I1, q1⟩
theorem pw_or (ha : PT X a tA) (hb : PW X (.BoolOp .Or (b :: rest) pos) tB') : PW X (.BoolOp .Or (a :: b :: rest) pos) (tOr tA tB') := by
  intro wh pins s σ H Q I h
  refine isTrue_or (thn (ha pins s σ H _ I h) fun c s1 ⟨H1, I1, q1⟩ => ?_)
  cases c with
  | true => exact ⟨H1, I1, q1⟩
  | false => exact hb wh pins s1 σ H1 Q I1 q1
theorem pt_not (ha : PT X a tA) : PT X (.UnaryOp .Not a pos) (tNot tA) := by
  intro pins s σ H Q I h
  exact isTrue_not (ha pins s σ H (fun c H1 => Q (!c) H1) I h)
def tAndV (ta tb : TE) : TE := fun σ H Q => ta σ H fun x H1 => ∃ c, x = .bl c ∧ if c = true then tb σ H1 Q else Q (.bl false) H1
def tOrV (ta tb : TE) : TE := fun σ H Q => ta σ H fun x H1 => ∃ c, x = .bl c ∧ if c = true then Q (.bl true) H1 else tb σ H1 Q
def tNotV (ta : TE) : TE := fun σ H Q => ta σ H fun x H1 => ∃ c, x = .bl c ∧ Q (.bl (!c)) H1
theorem pe_one {op} {t : TE} (h : PE X a t) : PE X (.BoolOp op [a] pos) t := fun pins s σ H Q I hw => BoolOp_one (h pins s σ H Q I hw)
theorem pe_and (ha : PE X a ta) (hb : PE X (.BoolOp .And (b :: rest) pos) tb) : PE X (.BoolOp .And (a :: b :: rest) pos) (tAndV ta tb) := by
  intro pins s σ H Q I h
  refine BoolOp_and (thn (ha pins s σ H _ I h) fun v s1 ⟨x, H1, I1, r1, q1⟩ => ?_)
  obtain ⟨c, rfl, q1⟩ := q1
  cases r1
  refine wpAny_truthy_bool ?_
  cases c with
  | true => exact hb pins s1 σ H1 Q I1 q1
  | false => exact ⟨.bl false, H1, I1, rfl, q1⟩
theorem pe_or (ha : PE X a ta) (hb : PE X (.BoolOp .Or (b :: rest) pos) tb) : PE X (.BoolOp .Or (a :: b :: rest) pos) (tOrV ta tb) := by
  intro pins s σ H Q I h
  refine BoolOp_or (thn (ha pins s σ H _ I h) fun v s1 ⟨x, H1, I1, r1, q1⟩ => ?_)
  obtain ⟨c, rfl, q1⟩ := q1
  cases r1
  refine wpAny_truthy_bool ?_
  cases c with
  | false => exact hb pins s1 σ H1 Q I1 q1
  | true => exact ⟨.bl true, H1, I1, rfl, q1⟩
theorem pe_not (ha : PE X a ta) : PE X (.UnaryOp .Not a pos) (tNotV ta) := by
  intro pins s σ H Q I h
  refine UnaryOp_ (thn (ha pins s σ H _ I h) fun v s1 ⟨x, H1, I1, r1, q1⟩ => ?_)
  obtain ⟨c, rfl, q1⟩ := q1
  cases r1
  exact not_of (wpAny_truthy_bool ⟨.bl (!c), H1, I1, rfl, q1⟩)
end
end L2
namespace L2
open PySem PySem.Spec PyProof.Rows
def SqL (K : PySem.W.Frag) (H : Hp) (a : Addr) (xs : List V) : Prop :=
  Rd H a (.lst xs) ∨
    ∃ (o : Obj) (its : Array Value) (n : Nat), K.lookup a = some o ∧ o.cls = .type "list" ∧ o.dict = none ∧ o.data = .seq its n ∧ its.size ≤ sizeLine ∧ Vals xs its.toList
def SqT (K : PySem.W.Frag) (H : Hp) (a : Addr) (xs : List V) : Prop :=
  Rd H a (.tup xs) ∨
    ∃ (o : Obj) (its : Array Value) (n : Nat), K.lookup a = some o ∧ o.cls = .type "tuple" ∧ o.data = .seq its n ∧ its.size ≤ sizeLine ∧ Vals xs its.toList
def absV : Value → Option V
  | .none => some .non
  | .bool b => some (.bl b)
  | .int i _ => some (.int i)
  | .str x _ => some (.str x)
  | .bytes b _ => some (.byt b)
  | .float b _ => some (.flt b)
  | .ref a => some (.ref a)
  | .type n => some (.ty n)
  | _ => none
theorem RelV.abs {x : V} {u : Value} (r : RelV x u) : absV u = some x := by
  cases x with
  | non => cases r; rfl
  | bl _ => cases r; rfl
  | int _ => obtain ⟨t, rfl⟩ := r; rfl
  | str _ => obtain ⟨t, rfl⟩ := r; rfl
  | byt _ => obtain ⟨t, rfl⟩ := r; rfl
  | flt _ => obtain ⟨t, rfl⟩ := r; rfl
  | ref _ => cases r; rfl
  | ty _ => cases r; rfl
theorem RelV.inj {x y : V} {u : Value} (r : RelV x u) (q : RelV y u) : x = y := Option.some.inj (r.abs.symm.trans q.abs)
theorem Vals.inj : ∀ {xs ys : List V} {us : List Value}, Vals xs us → Vals ys us → xs = ys
  | _, _, _, .nil, .nil => rfl
  | _, _, _, .cons r t, .cons r' t' => by rw [r.inj r', Vals.inj t t']
section
variable {X : Cx} {pins : List (Addr × Obj)} {σ : St} {H : Hp} {s : Shared} {a : Addr} {xs ys : List V}
theorem SqL.of {K : PySem.W.Frag} (h : H a = some (.lst xs)) : SqL K H a xs := .inl (.inl h)
theorem SqT.of {K : PySem.W.Frag} (h : H a = some (.tup xs)) : SqT K H a xs := .inl (.inl h)
theorem Inv.list (I : Inv X pins σ H s) (h : SqL X.K H a xs) : ∃ its : List Value, Vals xs its ∧ PlainL s.heap a its.toArray ∧ xs.length ≤ sizeLine := by
  rcases h with h | ⟨o, its, n, hk, hc, hd, hs, hz, r⟩
  · obtain ⟨z, its, n, r, e⟩ := h.ok I.hok
    exact ⟨its, r, ⟨_, n, e, rfl, rfl, rfl⟩, z⟩
  · refine ⟨its.toList, r, ⟨o, n, I.kIn a o hk, hc, hd, by simpa using hs⟩, ?_⟩
    have e := r.length
    simp only [Array.length_toList] at e
    omega
theorem Inv.tuple (I : Inv X pins σ H s) (h : SqT X.K H a xs) : ∃ its : List Value, Vals xs its ∧ IsTup s.heap a its.toArray ∧ xs.length ≤ sizeLine := by
  rcases h with h | ⟨o, its, n, hk, hc, hs, hz, r⟩
  · obtain ⟨z, its, r, p⟩ := h.ok I.hok
    exact ⟨its, r, p, z⟩
  · refine ⟨its.toList, r, ⟨o, I.kIn a o hk, hc, n, by simpa using hs⟩, ?_⟩
    have e := r.length
    simp only [Array.length_toList] at e
    omega
theorem Inv.list_inj (I : Inv X pins σ H s) (h : SqL X.K H a xs) (h' : SqL X.K H a ys) : xs = ys := by
  obtain ⟨its, r, ⟨o, n, e, _, _, d⟩, _⟩ := I.list h
  obtain ⟨its', r', ⟨o', n', e', _, _, d'⟩, _⟩ := I.list h'
  rw [e] at e'; cases e'
  rw [d] at d'
  injection d' with d1 _
  have : its = its' := by simpa using congrArg Array.toList d1
  subst this
  exact r.inj r'
theorem Inv.tuple_inj (I : Inv X pins σ H s) (h : SqT X.K H a xs) (h' : SqT X.K H a ys) : xs = ys := by
  obtain ⟨its, r, ⟨o, e, _, n, d⟩, _⟩ := I.tuple h
  obtain ⟨its', r', ⟨o', e', _, n', d'⟩, _⟩ := I.tuple h'
  rw [e] at e'; cases e'
  rw [d] at d'
  injection d' with d1 _
  have : its = its' := by simpa using congrArg Array.toList d1
  subst this
  exact r.inj r'
end
abbrev Cx.wish (X : Cx) (E : Value → Shared → Prop) : Cx := { X with xe := E }
abbrev Cx.nox (X : Cx) : Cx := X.wish fun _ _ => False
theorem Cx.Ok.wish {X : Cx} (ok : X.Ok) (E : Value → Shared → Prop) : (X.wish E).Ok :=
  ⟨ok.mod, ok.kind, ok.glob, ok.blt, ok.above, ok.inj, ok.has, ok.cab, ok.hd, ok.frames, ok.stk, ok.exf, ok.bs, ok.bsz, ok.noex, ok.exfs, ok.funs, ok.frf⟩
theorem Cx.Ok.unwish {X : Cx} {E : Value → Shared → Prop} (ok : (X.wish E).Ok) : X.Ok :=
  ⟨ok.mod, ok.kind, ok.glob, ok.blt, ok.above, ok.inj, ok.has, ok.cab, ok.hd, ok.frames, ok.stk, ok.exf, ok.bs, ok.bsz, ok.noex, ok.exfs, ok.funs, ok.frf⟩
section
variable {X : Cx} {pins : List (Addr × Obj)} {σ : St} {H : Hp} {s : Shared} {E : Value → Shared → Prop}
theorem Inv.wish (I : Inv X pins σ H s) (E : Value → Shared → Prop) : Inv (X.wish E) pins σ H s := ⟨I.ok.wish E, I.os, I.bare, I.base, I.loc, I.cell, I.free, I.freeC, I.pin, I.hok, I.len⟩
theorem Inv.unwish (I : Inv (X.wish E) pins σ H s) : Inv X pins σ H s := ⟨I.ok.unwish, I.os, I.bare, I.base, I.loc, I.cell, I.free, I.freeC, I.pin, I.hok, I.len⟩
theorem SP.unwish {D : Ends} {f : Flow} {s' : Shared} (h : SP (X.wish E) pins D f s') : SP X pins D f s' := by
  cases f with
  | next => obtain ⟨σ', H', I, q⟩ := h; exact ⟨σ', H', I.unwish, q⟩
  | brk => obtain ⟨σ', H', I, q⟩ := h; exact ⟨σ', H', I.unwish, q⟩
  | cont => obtain ⟨σ', H', I, q⟩ := h; exact ⟨σ', H', I.unwish, q⟩
  | ret u => obtain ⟨v, σ', H', I, r, q⟩ := h; exact ⟨v, σ', H', I.unwish, r, q⟩
theorem PSs.nox {st : List Stmt} {t : TS} (h : PSs X.nox st t) : PSs X st t := fun pins s σ H D I hw =>
  wpAny_mono (h pins s σ H D (I.wish _) hw) (fun _ _ q => q.unwish) fun _ _ z => False.elim z
end
section
variable {X : Cx} {st : Stmt} {rest : List Stmt} {t u : TS} {e : Expr} {te : TE} {pos : Pos}
def tNext : TS := fun D σ H => D.nx σ H
def tSeq (t u : TS) : TS := fun D σ H => t { D with nx := u D } σ H
theorem pss_nil : PSs X [] tNext := fun _ _ σ H _ I h => wpAny_execs_nil ⟨σ, H, I, h⟩
theorem pss_cons (h1 : PS X st t) (h2 : PSs X rest u) : PSs X (st :: rest) (tSeq t u) := by
  intro pins s σ H D I h
  refine wpAny_execs_cons (thn (h1 pins s σ H { D with nx := u D } I h) fun f s1 q => ?_)
  cases f with
  | next =>
    obtain ⟨σ', H', I', q⟩ := q
    exact h2 pins s1 σ' H' D I' q
  | ret v => exact q
  | brk => exact q
  | cont => exact q
theorem pss_one (h1 : PS X st t) : PSs X [st] t := by
  intro pins s σ H D I h
  refine wpAny_execs_cons (thn (h1 pins s σ H D I h) fun f s1 q => ?_)
  cases f with
  | next => exact wpAny_execs_nil q
  | ret v => exact q
  | brk => exact q
  | cont => exact q
theorem Inv.quiet {pins : List (Addr × Obj)} {σ : St} {H : Hp} {s : Shared} (I : Inv X pins σ H s) : interactive X.env = false := by simp [interactive, I.ok.kind]
def tDrop (te : TE) : TS := fun D σ H => te σ H fun _ H1 => D.nx σ H1
theorem ps_expr (he : PE X e te) (hs : swapsWith e none pos.line X.env = pure false := by rfl) : PS X (.Expr e pos) (tDrop te) := by
  intro pins s σ H D I h
  exact wpAny_Expr_any (thn (he pins s σ H _ I h) fun v s1 ⟨x, H1, I1, r1, q1⟩ => ⟨σ, H1, I1, q1⟩) I.quiet hs
def tRet (te : TE) : TS := fun D σ H => te σ H D.rt
theorem ps_ret (he : PE X e te) : PS X (.Return (some e) pos) (tRet te) := by
  intro pins s σ H D I h
  exact wpAny_Return_some (thn (he pins s σ H _ I h) fun v s1 ⟨x, H1, I1, r1, q1⟩ => ⟨x, σ, H1, I1, r1, q1⟩)
def tIfS (c : TT) (t u : TS) : TS := fun D σ H => c σ H fun b H1 => if b = true then t D σ H1 else u D σ H1
theorem ps_if {c : Expr} {a b : List Stmt} {tc : TT} (hc : PT X c tc) (ha : PSs X a t) (hb : PSs X b u) : PS X (.If c a b pos) (tIfS tc t u) := by
  intro pins s σ H D I h
  refine wpAny_If (thn (hc pins s σ H _ I h) fun d s1 ⟨H1, I1, q1⟩ => ?_)
  cases d with
  | true => exact ha pins s1 σ H1 D I1 q1
  | false => exact hb pins s1 σ H1 D I1 q1
end
abbrev TG := V → St → Hp → (St → Hp → Prop) → Prop
abbrev TGs := List V → St → Hp → (St → Hp → Prop) → Prop
def PG (X : Cx) (target : Expr) (t : TG) : Prop :=
  ∀ (pins : List (Addr × Obj)) (s : Shared) (σ : St) (H : Hp) (v : V) (u : Value) (Q : St → Hp → Prop), Inv X pins σ H s → RelV v u → t v σ H Q →
    wpAny (model X.prog X.w) X.A (assign target X.env u) (fun _ s' => ∃ σ' H', Inv X pins σ' H' s' ∧ Q σ' H') X.xe s
def PGs (X : Cx) (ts : List Expr) (t : TGs) : Prop :=
  ∀ (pins : List (Addr × Obj)) (s : Shared) (σ : St) (H : Hp) (vs : List V) (us : List Value) (Q : St → Hp → Prop), Inv X pins σ H s → Vals vs us → t vs σ H Q →
    wpAny (model X.prog X.w) X.A (assignInOrder ((assignEach ts X.env).map (·.2)) us) (fun _ s' => ∃ σ' H', Inv X pins σ' H' s' ∧ Q σ' H') X.xe s
abbrev TSet := V → V → V → Hp → (Hp → Prop) → Prop
def PSet (X : Cx) (t : TSet) : Prop :=
  ∀ (pins : List (Addr × Obj)) (s : Shared) (σ : St) (H : Hp) (o i v : V) (ov iv u : Value) (Q : Hp → Prop), Inv X pins σ H s → RelV o ov → RelV i iv → RelV v u → t o i v H Q →
    wpAny (model X.prog X.w) X.A (setItem ov iv u) (fun _ s' => ∃ H', Inv X pins σ H' s' ∧ Q H') X.xe s
section
variable {X : Cx} {pos : Pos}
def gName (i : Nat) : TG := fun v σ H Q => Q (σ.set i (some v)) H
theorem pg_name {i : Nat} {x : Str} (hN : X.N.Nodup) (hi : X.N[i]? = some x) (hx : Loc X.env.scope x) (hf : X.fn x = true ∨ X.env.scope.names.lookup x = some .local := by first | exact .inl rfl | exact .inr rfl | assumption) : PG X (.Name x pos) (gName i) := by
  intro pins s σ H v u Q I r h
  exact wpAny_assign_Name (store_ok I hN hi hx r (fun s' I' => ⟨_, H, I', h⟩) hf)
def gNil : TGs := fun vs σ H Q => vs = [] ∧ Q σ H
def gCons (t : TG) (u : TGs) : TGs := fun vs σ H Q => ∃ v r, vs = v :: r ∧ t v σ H fun σ' H' => u r σ' H' Q
theorem pgs_nil : PGs X [] gNil := by
  intro pins s σ H vs us Q I r h
  obtain ⟨e, h⟩ := h
  subst e
  cases r
  exact assignInOrder_nil ⟨σ, H, I, h⟩
theorem pgs_cons {e : Expr} {es : List Expr} {t : TG} {u : TGs} (h1 : PG X e t) (h2 : PGs X es u)
    (hs : (assignEach (e :: es) X.env).map (·.2) = assign e X.env :: (assignEach es X.env).map (·.2) := by rfl) : PGs X (e :: es) (gCons t u) := by
  intro pins s σ H vs us Q I r h
  obtain ⟨v, vr, e1, h⟩ := h
  subst e1
  cases r with
  | cons r rr =>
    rw [hs]
    refine assignInOrder_cons (thn (h1 pins s σ H _ _ _ I r h) fun _ s1 ⟨σ1, H1, I1, q1⟩ => ?_)
    exact h2 pins s1 σ1 H1 _ _ Q I1 rr q1
def gTup (K : PySem.W.Frag) (n : Nat) (t : TGs) : TG := fun v σ H Q => ∃ a xs, v = .ref a ∧ SqT K H a xs ∧ xs.length = n ∧ t xs σ H Q
theorem pg_tup {es : List Expr} {k : Nat} {t : TGs} {n : Nat} (hc : X.calm = true) (h : PGs X es t)
    (hn : (assignEach es X.env).length = n := by rfl) (hst : (assignEach es X.env).findIdx? (·.1) = none := by rfl) : PG X (.Tuple es k pos) (gTup X.K n t) := by
  intro pins s σ H v u Q I r hw
  obtain ⟨a, xs, e1, hq, hl, hw⟩ := hw
  subst e1
  cases r
  obtain ⟨its, rv, ht, hz⟩ := I.tuple hq
  refine assign_Tuple_tuple (I.ok.hd hc) ht (by simp [hn, ← hl, rv.length]) hst fun h' hx => ?_
  have I1 : Inv X pins σ H { s with heap := h' } := I.kept (t' := s.toks) fun b o e => hx b o (Nat.ne_of_lt (Heap.lt_size e)) e
  exact h pins _ σ H xs _ Q I1 (by simpa using rv) hw
def gSub (to ti : TE) (t : TSet) : TG := fun v σ H Q => to σ H fun o H1 => ti σ H1 fun i H2 => t o i v H2 fun H3 => Q σ H3
theorem pg_sub {o i : Expr} {to ti : TE} {t : TSet} (ho : PE X o to) (hi : PE X i ti) (hs : PSet X t)
    (ha : ∀ v, assign (.Subscript o i pos) X.env v = (do
      let ov ← holding [v] (eval o X.env)
      let iv ← holding [v, ov] (eval i X.env)
      standAt pos
      holding [v, ov, iv] (setItem ov iv v)
      release [v, ov, iv] []) := by intro _; rfl) : PG X (.Subscript o i pos) (gSub to ti t) := by
  intro pins s σ H v u Q I r h
  rw [ha]
  refine wpAny_bind (wpAny_holding (thn (ho pins s σ H _ I h) fun ov s1 ⟨x, H1, I1, r1, q1⟩ => ?_))
  refine wpAny_bind (wpAny_holding (thn (hi pins s1 σ H1 _ I1 q1) fun iv s2 ⟨y, H2, I2, r2, q2⟩ => ?_))
  refine wpAny_bind (wpAny_standAt (wpAny_bind (wpAny_holding (thn (hs pins s2 σ H2 x y v ov iv u _ I2 r1 r2 r q2) fun _ s3 ⟨H3, I3, q3⟩ => ?_))))
  exact wpAny_release ⟨σ, H3, I3, q3⟩
def tAsg (te : TE) (g : TG) : TS := fun D σ H => te σ H fun x H1 => g x σ H1 D.nx
theorem ps_asg {tg e : Expr} {te : TE} {g : TG} (he : PE X e te) (hg : PG X tg g) (hs : swapsWithSole [tg] e pos.line X.env = pure false := by rfl) (hw : swappedStores [tg] e X.env = pure none := by rfl)
    (h1 : (assignEach [tg] X.env).map (·.2) = [assign tg X.env] := by rfl) : PS X (.Assign [tg] e pos) (tAsg te g) := by
  intro pins s σ H D I h
  refine wpAny_Assign_stores (thn (he pins s σ H _ I h) fun v s1 ⟨x, H1, I1, r1, q1⟩ => ?_) hs hw
  rw [h1]
  exact thn (hg pins s1 σ H1 x v _ I1 r1 q1) fun _ s2 q => q
theorem ps_set {i : Nat} {x : Str} {e : Expr} {te : TE} {pos' : Pos} (hN : X.N.Nodup) (hi : X.N[i]? = some x) (hx : Loc X.env.scope x) (he : PE X e te) (hs : swapsWith e (some (.Name x pos')) pos.line X.env = pure false := by rfl) (hf : X.fn x = true ∨ X.env.scope.names.lookup x = some .local := by first | exact .inl rfl | exact .inr rfl | assumption) :
    PS X (.Assign [.Name x pos'] e pos) (tAsg te (gName i)) := by
  intro pins s σ H D I h
  refine wpAny_Assign_Name (thn (he pins s σ H _ I h) fun v s1 ⟨y, H1, I1, r1, q1⟩ => ?_) hs
  exact store_ok I1 hN hi hx r1 (fun s2 I2 => ⟨_, H1, I2, q1⟩) hf
end
section
variable {X : Cx} {pos : Pos}
end
structure It where
  go : Nat → Hp → Prop
  yld : Nat → Hp → V → Hp → Prop
  stop : Nat → Hp → Prop
def FpOk (X : Cx) (pins : List (Addr × Obj)) (H : Hp) (b : Addr) : Prop :=
  H b = none ∧ b ≠ X.env.locals ∧ b ∉ X.fs ∧ (b ∈ X.ex ∨ X.s₀.heap.objs.size ≤ b) ∧ (∀ x c, X.env.cells.lookup x = some c → c ≠ b) ∧ ∀ p ∈ X.pn ++ pins, p.1 ≠ b
theorem Inv.fpOk {X : Cx} {pins : List (Addr × Obj)} {σ : St} {H H' : Hp} {s : Shared} {b : Addr} (I : Inv X pins σ H s) (hb : s.heap.objs.size ≤ b) (hn : H' b = none) : FpOk X pins H' b := by
  refine ⟨hn, Nat.ne_of_gt (Nat.lt_of_lt_of_le I.lt hb), I.nofs hb, .inr (Nat.le_trans I.sz hb), fun x c e z => ?_, fun p hp z => ?_⟩
  · obtain ⟨v, q⟩ := I.cell x c e
    exact absurd (Nat.lt_of_lt_of_le q.lt (by rw [z]; exact hb)) (Nat.lt_irrefl _)
  · exact absurd (Nat.lt_of_lt_of_le (Heap.lt_size (I.pin p hp).1) (by rw [z]; exact hb)) (Nat.lt_irrefl _)
structure Turn (P : Program) (w : World) (K : PySem.W.Frag) (tg : Expr) (J : It) (fp : List Addr) (it : Addr) (tn : Nat → Heap → Prop) : Prop where
  mem : it ∈ fp
  obj : ∀ i h, tn i h → ∀ b ∈ fp, ∃ o, h.get? b = some o ∧ ∀ v, o.data ≠ .cell v
  keep : ∀ i h h', tn i h → (∀ b ∈ fp, ∀ o, h.get? b = some o → h'.get? b = some o) → tn i h'
  item : ∀ (X : Cx), X.prog = P → X.w = w → X.K = K → X.calm = true → ∀ (i : Nat) (pins : List (Addr × Obj)) (s : Shared) (σ : St) (H : Hp) (E : Value → Shared → Prop), Inv X pins σ H s → (∀ b ∈ fp, FpOk X pins H b) → tn i s.heap → J.go i H →
    wpAny (model P w) X.A (pyNext (.ref it)) (fun r s1 => ∃ u, r = some u ∧
      wpAny (model P w) X.A (letOwnedTupleGo tg (.ref it) u) (fun _ s2 => ∃ x H', Inv X pins σ H' s2 ∧ RelV x u ∧ J.yld i H x H' ∧ tn (i + 1) s2.heap ∧ ∀ b ∈ fp, H' b = none) E s1) E s
  done : ∀ (X : Cx), X.prog = P → X.w = w → X.K = K → X.calm = true → ∀ (i : Nat) (pins : List (Addr × Obj)) (s : Shared) (σ : St) (H : Hp) (E : Value → Shared → Prop), Inv X pins σ H s → (∀ b ∈ fp, FpOk X pins H b) → tn i s.heap → J.stop i H →
    wpAny (model P w) X.A (pyNext (.ref it)) (fun r s1 => r = none ∧ Inv X pins σ H s1) E s
  self : ∀ (A : Around) (i : Nat) (s : Shared) (Q : Value → Shared → Prop) (E : Value → Shared → Prop), tn i s.heap → Q (.ref it) s → wpAny (model P w) A (pyIter (.ref it)) Q E s
abbrev TI := St → Hp → (It → Hp → Prop) → Prop
def PIE (X : Cx) (pins : List (Addr × Obj)) (σ : St) (tg : Expr) (R : It → Hp → Prop) (itv : Value) (s2 : Shared) : Prop :=
  ∃ (it : Addr) (fp : List Addr) (tn : Nat → Heap → Prop) (J : It) (H' : Hp), itv = .ref it ∧ Inv X pins σ H' s2 ∧ Turn X.prog X.w X.K tg J fp it tn ∧ tn 0 s2.heap ∧ (∀ b ∈ fp, FpOk X pins H' b) ∧ R J H'
def PI (X : Cx) (tg iter : Expr) (wi : TI) : Prop :=
  ∀ (pins : List (Addr × Obj)) (s : Shared) (σ : St) (H : Hp) (R : It → Hp → Prop), Inv X pins σ H s → wi σ H R →
    wpAny (model X.prog X.w) X.A (eval iter X.env) (fun v s1 => wpAny (model X.prog X.w) X.A (pyIter v) (PIE X pins σ tg R) X.xe s1) X.xe s
theorem go_of {M : Model} {A : Around} {E : Value → Shared → Prop} {s : Shared} {tg : Expr} {it : Addr} {u : Value} {o : Obj} {n : String} {vs : Array Value} {Q : Unit → Shared → Prop} (ho : s.heap.get? it = some o) (hc : o.cls = .type n) (hd : o.data = .fields vs)
    (hn : ["enumerate", "zip", "dict_itemiterator", "dict_reverseitemiterator", "odict_iterator", "itertools.zip_longest", "itertools.pairwise"].contains n = false) (hQ : Q () s) : wpAny M A (letOwnedTupleGo tg (.ref it) u) Q E s := by
  unfold letOwnedTupleGo
  cases tg <;> first
    | exact wpAny_pure hQ
    | (cases u <;> first
        | exact wpAny_pure hQ
        | (refine wpAny_bind (wpAny_load ho ?_)
           rw [hc, hd]
           show wpAny M A (if (["enumerate", "zip", "dict_itemiterator", "dict_reverseitemiterator", "odict_iterator", "itertools.zip_longest", "itertools.pairwise"].contains n && vs[0]? == some (rawInt _)) = true then _ else _) Q E s
           rw [if_neg (by intro h; rw [hn, Bool.false_and] at h; cases h)]
           exact wpAny_pure hQ))
def Itl (K : PySem.W.Frag) (a : Addr) : It :=
  ⟨fun i H => ∃ xs x, SqL K H a xs ∧ xs[i]? = some x, fun i H x H' => H' = H ∧ ∀ xs, SqL K H a xs → xs[i]? = some x, fun i H => ∃ xs, SqL K H a xs ∧ xs.length ≤ i⟩
def Itt (K : PySem.W.Frag) (a : Addr) : It :=
  ⟨fun i H => ∃ xs x, SqT K H a xs ∧ xs[i]? = some x, fun i H x H' => H' = H ∧ ∀ xs, SqT K H a xs → xs[i]? = some x, fun i H => ∃ xs, SqT K H a xs ∧ xs.length ≤ i⟩
def Itr (lo : Int) (n : Nat) : It := ⟨fun i _ => i < n, fun i H x H' => H' = H ∧ x = .int (lo + i), fun i _ => n ≤ i⟩
theorem turn_list {P : Program} {w : World} {K : PySem.W.Frag} {tg : Expr} (a it : Addr) : Turn P w K tg (Itl K a) [it] it (fun i h => h.IsListIter it a i) where
  mem := by simp
  obj := fun i h st b hb => by
    have e : b = it := by simpa using hb
    subst e
    obtain ⟨o, e, c, d⟩ := st
    exact ⟨o, e, fun v z => by rw [d] at z; cases z⟩
  keep := fun i h h' st k => st.at fun o e => k it (by simp) o e
  item := by
    intro X hP hw hK hc i pins s σ H E I hf st hg
    subst hP hw hK
    obtain ⟨xs, x, hq, hx⟩ := hg
    obtain ⟨its, rv, p, hz⟩ := I.list hq
    obtain ⟨u, hu, ru⟩ := rv.get hx
    obtain ⟨f0, f1, f2, f3, f4, f5⟩ := hf it (by simp)
    refine wpAny_pyNext_list_item st p.isList (x := u) (by simpa using hu) fun h' st' sb => ?_
    have I1 : Inv X pins σ H { s with heap := h' } := I.turned (t' := s.toks) (fun b o hb e => (sb.2 b hb).trans e) f0 f1 f3 f4 f5
    obtain ⟨o, e, c, d⟩ := id st'
    exact ⟨u, rfl, go_of (s := { s with heap := h' }) e c d (by decide) ⟨x, H, I1, ru, ⟨rfl, fun ys hy => by rw [I.list_inj hy hq]; exact hx⟩, st', fun b hb => (hf b hb).1⟩⟩
  done := by
    intro X hP hw hK hc i pins s σ H E I hf st hg
    subst hP hw hK
    obtain ⟨xs, hq, hx⟩ := hg
    obtain ⟨its, rv, p, hz⟩ := I.list hq
    obtain ⟨f0, f1, f2, f3, f4, f5⟩ := hf it (by simp)
    have hl := rv.length
    exact wpAny_pyNext_list_end (I.ok.hd hc) st p.isList (by simp; omega) fun h' eb => ⟨rfl, I.turned (t' := s.toks) (fun b o hb e => eb b o hb e) f0 f1 f3 f4 f5⟩
  self := fun _ _ _ _ _ st h => wpAny_pyIter_listiter st h
theorem turn_tuple {P : Program} {w : World} {K : PySem.W.Frag} {tg : Expr} (a it : Addr) : Turn P w K tg (Itt K a) [it] it (fun i h => h.IsTupleIter it a i) where
  mem := by simp
  obj := fun i h st b hb => by
    have e : b = it := by simpa using hb
    subst e
    obtain ⟨o, e, c, d⟩ := st
    exact ⟨o, e, fun v z => by rw [d] at z; cases z⟩
  keep := fun i h h' st k => st.at fun o e => k it (by simp) o e
  item := by
    intro X hP hw hK hc i pins s σ H E I hf st hg
    subst hP hw hK
    obtain ⟨xs, x, hq, hx⟩ := hg
    obtain ⟨its, rv, p, hz⟩ := I.tuple hq
    obtain ⟨u, hu, ru⟩ := rv.get hx
    obtain ⟨f0, f1, f2, f3, f4, f5⟩ := hf it (by simp)
    refine wpAny_pyNext_tuple_item st (show s.heap.IsTuple a its.toArray from p) (x := u) (by simpa using hu) fun h' st' sb => ?_
    have I1 : Inv X pins σ H { s with heap := h' } := I.turned (t' := s.toks) (fun b o hb e => (sb.2 b hb).trans e) f0 f1 f3 f4 f5
    obtain ⟨o, e, c, d⟩ := id st'
    exact ⟨u, rfl, go_of (s := { s with heap := h' }) e c d (by decide) ⟨x, H, I1, ru, ⟨rfl, fun ys hy => by rw [I.tuple_inj hy hq]; exact hx⟩, st', fun b hb => (hf b hb).1⟩⟩
  done := by
    intro X hP hw hK hc i pins s σ H E I hf st hg
    subst hP hw hK
    obtain ⟨xs, hq, hx⟩ := hg
    obtain ⟨its, rv, p, hz⟩ := I.tuple hq
    obtain ⟨f0, f1, f2, f3, f4, f5⟩ := hf it (by simp)
    have hl := rv.length
    exact wpAny_pyNext_tuple_end (I.ok.hd hc) st (show s.heap.IsTuple a its.toArray from p) (by simp; omega) fun h' eb => ⟨rfl, I.turned (t' := s.toks) (fun b o hb e => eb b o hb e) f0 f1 f3 f4 f5⟩
  self := fun _ _ _ _ _ st h => wpAny_pyIter_tupleiter st h
theorem turn_range {P : Program} {w : World} {K : PySem.W.Frag} {tg : Expr} (it : Addr) (lo : Int) (n : Nat) : Turn P w K tg (Itr lo n) [it] it (fun i h => IsRangeIter h it (lo + (i : Nat) * 1) ((n : Int) - (i : Nat)) 1) where
  mem := by simp
  obj := fun i h st b hb => by
    have e : b = it := by simpa using hb
    subst e
    exact ⟨_, st, fun v z => by
      have z' : Data.fields _ = Data.cell v := z
      cases z'⟩
  keep := fun i h h' st k => k it (by simp) _ st
  item := by
    intro X hP hw hK hc i pins s σ H E I hf st hg
    subst hP hw hK
    obtain ⟨f0, f1, f2, f3, f4, f5⟩ := hf it (by simp)
    have W := Walks.range (prog := X.prog) (w := X.w) (I.ok.hd hc) it lo 1 n
    refine W.item i s _ _ hg st fun v h' tk hv st' kk => ?_
    obtain ⟨t, rfl⟩ := hv
    have I1 : Inv X pins σ H { s with heap := h', toks := tk } := I.turned (fun b o hb e => kk b o (by simpa using hb) e) f0 f1 f3 f4 f5
    refine ⟨_, rfl, go_of (s := { s with heap := h', toks := tk }) (n := "range_iterator") st' rfl rfl (by decide) ⟨.int (lo + i), H, I1, ⟨t, ?_⟩, ⟨rfl, rfl⟩, st', fun b hb => (hf b hb).1⟩⟩
    rw [Int.mul_one]
  done := by
    intro X hP hw hK hc i pins s σ H E I hf st hg
    subst hP hw hK
    obtain ⟨f0, f1, f2, f3, f4, f5⟩ := hf it (by simp)
    exact wpAny_pyNext_range_end (I.ok.hd hc) st (by have : n ≤ i := hg; omega) fun h' eb => ⟨rfl, I.turned (t' := s.toks) (fun b o hb e => eb b o hb e) f0 f1 f3 f4 f5⟩
  self := fun _ _ _ _ _ st h => wpAny_pyIter_rangeiter st h
end L2
namespace L2
open PySem PySem.Spec PyProof.Rows
section
variable {X : Cx} {tg : Expr}
def iList (K : PySem.W.Frag) (tl : TE) : TI := fun σ H R => tl σ H fun x H1 => ∃ a, x = .ref a ∧ (∃ xs, SqL K H1 a xs) ∧ R (Itl K a) H1
def iTup (K : PySem.W.Frag) (tl : TE) : TI := fun σ H R => tl σ H fun x H1 => ∃ a, x = .ref a ∧ (∃ xs, SqT K H1 a xs) ∧ R (Itt K a) H1
theorem pi_list {l : Expr} {tl : TE} (hl : PE X l tl) : PI X tg l (iList X.K tl) := by
  intro pins s σ H R I h
  refine thn (hl pins s σ H _ I h) fun v s1 ⟨x, H1, I1, r1, q1⟩ => ?_
  obtain ⟨a, e, ⟨xs, hq⟩, q⟩ := q1
  subst e
  cases r1
  obtain ⟨its, rv, p, hz⟩ := I1.list hq
  refine wpAny_pyIter_list p.isList ?_
  refine ⟨s1.heap.objs.size, [s1.heap.objs.size], _, _, H1, rfl, I1.kept (t' := s1.toks) fun b o e => Heap.get?_push_of_some _ e, turn_list a _, ⟨_, Heap.get?_push_size _ rfl, rfl, rfl⟩, fun b hb => ?_, q⟩
  have e : b = s1.heap.objs.size := by simpa using hb
  subst e
  exact I1.fpOk (Nat.le_refl _) (I1.hok.fresh (Nat.le_refl _))
theorem pi_tup {l : Expr} {tl : TE} (hl : PE X l tl) : PI X tg l (iTup X.K tl) := by
  intro pins s σ H R I h
  refine thn (hl pins s σ H _ I h) fun v s1 ⟨x, H1, I1, r1, q1⟩ => ?_
  obtain ⟨a, e, ⟨xs, hq⟩, q⟩ := q1
  subst e
  cases r1
  obtain ⟨its, rv, p, hz⟩ := I1.tuple hq
  refine wpAny_pyIter_tuple (show s1.heap.IsTuple a its.toArray from p) ?_
  refine ⟨s1.heap.objs.size, [s1.heap.objs.size], _, _, H1, rfl, I1.kept (t' := s1.toks) fun b o e => Heap.get?_push_of_some _ e, turn_tuple a _, ⟨_, Heap.get?_push_size _ rfl, rfl, rfl⟩, fun b hb => ?_, q⟩
  have e : b = s1.heap.objs.size := by simpa using hb
  subst e
  exact I1.fpOk (Nat.le_refl _) (I1.hok.fresh (Nat.le_refl _))
theorem range_it {pins : List (Addr × Obj)} {σ : St} {H : Hp} {s : Shared} {R : It → Hp → Prop} {E : Value → Shared → Prop} {lo hi : Int} {t u v : Tok} {tk : Nat} (I : Inv X pins σ H s) (h1 : -(2 ^ 62) ≤ lo) (h2 : lo < 2 ^ 62) (h3 : -(2 ^ 62) ≤ hi) (h4 : hi < 2 ^ 62)
    (q : R (Itr lo (hi - lo).toNat) H) : wpAny (model X.prog X.w) X.A (pyIter (.ref s.heap.objs.size)) (PIE X pins σ tg R) E { s with heap := s.heap.push { cls := .type "range", data := .fields #[.int lo t, .int hi u, .int 1 v] }, toks := tk } := by
  refine wpAny_pyIter_range (IsRange.new ..) (small_one h1 h2 h3 h4) ?_
  have I1 : Inv X pins σ H { s with heap := s.heap.push { cls := .type "range", data := .fields #[.int lo t, .int hi u, .int 1 v] }, toks := tk } := I.kept fun b o e => Heap.get?_push_of_some _ e
  refine ⟨(s.heap.push { cls := .type "range", data := .fields #[.int lo t, .int hi u, .int 1 v] }).objs.size, [(s.heap.push { cls := .type "range", data := .fields #[.int lo t, .int hi u, .int 1 v] }).objs.size], _, _, H, rfl,
    I1.kept (t' := tk) fun b o e => Heap.get?_push_of_some _ e, turn_range _ lo (hi - lo).toNat, ?_, fun b hb => ?_, q⟩
  · have e1 : lo + ((0 : Nat) : Int) * 1 = lo := by simp
    have e2 : (((hi - lo).toNat : Nat) : Int) - ((0 : Nat) : Int) = Builtin.Range.rangeSize lo hi 1 := by rw [rangeSize_one]; split <;> omega
    show IsRangeIter _ _ (lo + ((0 : Nat) : Int) * 1) ((((hi - lo).toNat : Nat) : Int) - ((0 : Nat) : Int)) 1
    rw [e1, e2]
    exact Heap.get?_push_size _ rfl
  · have e : b = (s.heap.push { cls := .type "range", data := .fields #[.int lo t, .int hi u, .int 1 v] }).objs.size := by simpa using hb
    subst e
    exact I1.fpOk (Nat.le_refl _) (I1.hok.fresh (Nat.le_refl _))
def iRng1 (ta : TA) : TI := fun σ H R => ta σ H fun vs H1 => ∃ j : Int, vs = [.int j] ∧ -(2 ^ 62) ≤ j ∧ j < 2 ^ 62 ∧ R (Itr 0 j.toNat) H1
theorem pi_range1 {a : Expr} {ta : TA} {p pos : Pos} (hg : Gl X "range") (hm : X.mg "range" = none) (ha : PA X [a] ta) (hs : starEach [a] X.env = [(false, eval a X.env)] := by rfl) : PI X tg (.Call (.Name "range" p) [a] [] pos) (iRng1 ta) := by
  intro pins s σ H R I h
  refine Call_ (ld_blt I hg hm boot_range (PyProof.Rows.callWith_type1 (thn (ha pos pins s σ H _ I h) fun us s1 ⟨vs, H1, I1, r1, q1⟩ => ?_) hs rfl))
  obtain ⟨j, e, q1, q2, q⟩ := q1
  subst e
  cases r1 with
  | cons r rr =>
    cases rr
    obtain ⟨t, rfl⟩ := r
    exact call_range_1 (range_it I1 (by omega) (by omega) q1 q2 (by simpa using q))
def tFor (wi : TI) (g : TG) (tb : TS) : TS := fun D σ H => wi σ H fun J H1 => ∃ W : Nat → Nat → St → Hp → Prop, (∃ m, W 0 m σ H1) ∧ ∀ i m σ H, W i m σ H →
  (J.stop i H ∧ D.nx σ H) ∨ (J.go i H ∧ ∃ N : St → Hp → Prop, (∀ σ' H', N σ' H' → ∃ m', m' < m ∧ W (i + 1) m' σ' H') ∧ ∀ x H', J.yld i H x H' → g x σ H' fun σ2 H2 => tb { D with nx := N, ct := N, bk := D.nx } σ2 H2)
def pinsAt (fp : List Addr) (h : Heap) : List (Addr × Obj) := fp.filterMap fun b => (h.get? b).map fun o => (b, o)
theorem mem_pinsAt {fp : List Addr} {h : Heap} {b : Addr} {o : Obj} (hb : b ∈ fp) (e : h.get? b = some o) : (b, o) ∈ pinsAt fp h := List.mem_filterMap.mpr ⟨b, hb, by rw [e]; rfl⟩
theorem of_pinsAt {fp : List Addr} {h : Heap} {p : Addr × Obj} (hp : p ∈ pinsAt fp h) : p.1 ∈ fp ∧ h.get? p.1 = some p.2 := by
  obtain ⟨b, hb, e⟩ := List.mem_filterMap.mp hp
  cases q : h.get? b with
  | none => rw [q] at e; cases e
  | some o =>
    rw [q] at e
    have e' : (b, o) = p := Option.some.inj e
    subst e'
    exact ⟨hb, q⟩
theorem Inv.pinned {pins : List (Addr × Obj)} {σ : St} {H : Hp} {s : Shared} {fp : List Addr} (I : Inv X pins σ H s) (hf : ∀ b ∈ fp, FpOk X pins H b) (ho : ∀ b ∈ fp, ∃ o, s.heap.get? b = some o ∧ ∀ v, o.data ≠ .cell v) : Inv X (pins ++ pinsAt fp s.heap) σ H s :=
  I.pins_of fun p hp => (List.mem_append.mp hp).elim (fun z => I.pin p (List.mem_append_right _ z)) fun z => by
    obtain ⟨hb, e⟩ := of_pinsAt z
    obtain ⟨f0, f1, f2, _⟩ := hf p.1 hb
    obtain ⟨o, e', d⟩ := ho p.1 hb
    rw [e] at e'; cases e'
    exact ⟨e, f0, f1, f2, d⟩
theorem Inv.unpinned {pins pl : List (Addr × Obj)} {σ : St} {H : Hp} {s : Shared} (I : Inv X (pins ++ pl) σ H s) : Inv X pins σ H s := I.pins_of fun p hp => I.pin p (List.mem_append_right _ (List.mem_append_left _ hp))
theorem ps_for {iter : Expr} {body : List Stmt} {wi : TI} {g : TG} {tb : TS} {pos : Pos} (hp : PassesOwn (model X.prog X.w) X.A X.env X.xe) (hc : X.calm = true) (hi : PI X tg iter wi) (hg : PG X tg g) (hb : PSs X body tb)
    (hs : ∀ x, foldedSetIterable iter X.env x = pure x := by intro _; rfl) : PS X (.For tg iter body [] pos) (tFor wi g tb) := by
  intro pins s σ H D I h
  refine wpAny_For (thn (hi pins s σ H _ I h) fun v s1 h1 => thn h1 fun itv s2 h2 => ?_) hs
  obtain ⟨it, fp, tn, J, H2, e, I2, T, st2, f2, W, ⟨m0, w0⟩, turn⟩ := h2
  subst e
  have stat : ∀ {H' : Hp}, (∀ b ∈ fp, H' b = none) → ∀ b ∈ fp, FpOk X pins H' b := fun hn b hb => ⟨hn b hb, (f2 b hb).2⟩
  refine codeAny_forLoop_any (fun n s' => ∃ i σ' H', Inv X pins σ' H' s' ∧ tn i s'.heap ∧ (∀ b ∈ fp, H' b = none) ∧ W i n σ' H') ?_ m0 ⟨0, σ, H2, I2, st2, fun b hb => (f2 b hb).1, w0⟩
  rintro n s3 ⟨i, σ3, H3, I3, st3, fr3, w3⟩
  rcases turn i n σ3 H3 w3 with ⟨stop, qn⟩ | ⟨go, N, hN, step⟩
  · refine wpAny_passesOwn hp (thn (T.done X rfl rfl rfl hc i pins s3 σ3 H3 X.xe I3 (stat fr3) st3 stop) fun r s4 ⟨hr, I4⟩ => ?_)
    subst hr
    exact wpAny_execs_nil ⟨σ3, H3, I4, qn⟩
  · refine wpAny_passesOwn hp (thn (T.item X rfl rfl rfl hc i pins s3 σ3 H3 X.xe I3 (stat fr3) st3 go) fun r s4 ⟨u, hr, h4⟩ => ?_)
    subst hr
    refine wpAny_passesOwn hp (thn h4 fun _ s5 ⟨x, H5, I5, r5, y5, st5, fr5⟩ => ?_)
    have I5' := I5.pinned (stat fr5) (T.obj _ _ st5)
    refine wpAny_passesOwn hp (thn (hg _ s5 σ3 H5 x u _ I5' r5 (step x H5 y5)) fun _ s6 ⟨σ6, H6, I6, q6⟩ => ?_)
    refine wpAny_passesOwn hp (thn (hb _ s6 σ6 H6 _ I6 q6) fun f s7 q7 => ?_)
    have again : ∀ {σ7 : St} {H7 : Hp}, Inv X (pins ++ pinsAt fp s5.heap) σ7 H7 s7 → N σ7 H7 → ∃ m, m < n ∧ ∃ i σ' H', Inv X pins σ' H' s7 ∧ tn i s7.heap ∧ (∀ b ∈ fp, H' b = none) ∧ W i m σ' H' := fun {σ7 H7} I7 n7 => by
      obtain ⟨m', hm, w7⟩ := hN σ7 H7 n7
      refine ⟨m', hm, i + 1, σ7, H7, I7.unpinned, T.keep _ _ _ st5 fun b hb o e => (I7.pin (b, o) (List.mem_append_right _ (List.mem_append_right _ (mem_pinsAt hb e)))).1, fun b hb => ?_, w7⟩
      obtain ⟨o, e, d⟩ := T.obj _ _ st5 b hb
      exact (I7.pin (b, o) (List.mem_append_right _ (List.mem_append_right _ (mem_pinsAt hb e)))).2.1
    cases f with
    | next => obtain ⟨σ7, H7, I7, n7⟩ := q7; exact again I7 n7
    | cont => obtain ⟨σ7, H7, I7, n7⟩ := q7; exact again I7 n7
    | brk => obtain ⟨σ7, H7, I7, q7⟩ := q7; exact ⟨σ7, H7, I7.unpinned, q7⟩
    | ret v => obtain ⟨x7, σ7, H7, I7, r7, q7⟩ := q7; exact ⟨x7, σ7, H7, I7.unpinned, r7, q7⟩
end
theorem for_list {K : PySem.W.Frag} {a : Addr} {xs : List V} {g : TG} {tb : TS} {D : Ends} {σ : St} {H : Hp} (Pv : Nat → St → Hp → Prop) (h0 : Pv 0 σ H) (hl : ∀ i σ H, i ≤ xs.length → Pv i σ H → SqL K H a xs)
    (hs : ∀ i x σ H, xs[i]? = some x → Pv i σ H → g x σ H fun σ2 H2 => tb { D with nx := Pv (i + 1), ct := Pv (i + 1), bk := D.nx } σ2 H2) (hd : ∀ σ H, Pv xs.length σ H → D.nx σ H) :
    ∃ W : Nat → Nat → St → Hp → Prop, (∃ m, W 0 m σ H) ∧ ∀ i m σ H, W i m σ H →
      ((Itl K a).stop i H ∧ D.nx σ H) ∨ ((Itl K a).go i H ∧ ∃ N : St → Hp → Prop, (∀ σ' H', N σ' H' → ∃ m', m' < m ∧ W (i + 1) m' σ' H') ∧ ∀ x H', (Itl K a).yld i H x H' → g x σ H' fun σ2 H2 => tb { D with nx := N, ct := N, bk := D.nx } σ2 H2) := by
  refine ⟨fun i m σ H => m = xs.length - i ∧ i ≤ xs.length ∧ Pv i σ H, ⟨xs.length, by simp, Nat.zero_le _, h0⟩, ?_⟩
  rintro i m σ H ⟨rfl, hi, p⟩
  have q := hl i σ H hi p
  by_cases hlt : i < xs.length
  · refine .inr ⟨⟨xs, xs[i], q, by simp [hlt]⟩, Pv (i + 1), fun σ' H' p' => ⟨xs.length - (i + 1), by omega, rfl, hlt, p'⟩, fun x H' y => ?_⟩
    obtain ⟨e, y⟩ := y
    subst e
    exact hs i x σ _ (y xs q) p
  · have e : i = xs.length := by omega
    subst e
    exact .inl ⟨⟨xs, q, Nat.le_refl _⟩, hd σ H p⟩
theorem for_range {lo : Int} {n : Nat} {g : TG} {tb : TS} {D : Ends} {σ : St} {H : Hp} (Pv : Nat → St → Hp → Prop) (h0 : Pv 0 σ H)
    (hs : ∀ i σ H, i < n → Pv i σ H → g (.int (lo + i)) σ H fun σ2 H2 => tb { D with nx := Pv (i + 1), ct := Pv (i + 1), bk := D.nx } σ2 H2) (hd : ∀ σ H, Pv n σ H → D.nx σ H) :
    ∃ W : Nat → Nat → St → Hp → Prop, (∃ m, W 0 m σ H) ∧ ∀ i m σ H, W i m σ H →
      ((Itr lo n).stop i H ∧ D.nx σ H) ∨ ((Itr lo n).go i H ∧ ∃ N : St → Hp → Prop, (∀ σ' H', N σ' H' → ∃ m', m' < m ∧ W (i + 1) m' σ' H') ∧ ∀ x H', (Itr lo n).yld i H x H' → g x σ H' fun σ2 H2 => tb { D with nx := N, ct := N, bk := D.nx } σ2 H2) := by
  refine ⟨fun i m σ H => m = n - i ∧ i ≤ n ∧ Pv i σ H, ⟨n, by simp, Nat.zero_le _, h0⟩, ?_⟩
  rintro i m σ H ⟨rfl, hi, p⟩
  by_cases hlt : i < n
  · refine .inr ⟨hlt, Pv (i + 1), fun σ' H' p' => ⟨n - (i + 1), by omega, rfl, hlt, p'⟩, fun x H' y => ?_⟩
    obtain ⟨e, y⟩ := y
    subst e y
    exact hs i σ _ hlt p
  · have e : i = n := by omega
    subst e
    exact .inl ⟨Nat.le_refl _, hd σ H p⟩
end L2
namespace L2
open PySem PySem.Spec PyProof.Rows
abbrev R2 := V → V → Hp → VK → Prop
def OpR (X : Cx) (f : Value → Value → Sem Value) (r : R2) : Prop :=
  ∀ (pins : List (Addr × Obj)) (s : Shared) (σ : St) (H : Hp) (x y : V) (v u : Value) (Q : VK), Inv X pins σ H s → RelV x v → RelV y u → r x y H Q →
    wpAny (model X.prog X.w) X.A (f v u) (EP X pins σ Q) X.xe s
def UnR (X : Cx) (f : Value → Sem Value) (r : V → Hp → VK → Prop) : Prop :=
  ∀ (pins : List (Addr × Obj)) (s : Shared) (σ : St) (H : Hp) (x : V) (v : Value) (Q : VK), Inv X pins σ H s → RelV x v → r x H Q →
    wpAny (model X.prog X.w) X.A (f v) (EP X pins σ Q) X.xe s
def CallR (X : Cx) (f : Value) (r : List V → Hp → VK → Prop) : Prop :=
  ∀ (pins : List (Addr × Obj)) (s : Shared) (σ : St) (H : Hp) (xs : List V) (us : List Value) (Q : VK), Inv X pins σ H s → Vals xs us → r xs H Q →
    wpAny (model X.prog X.w) X.A (call f us) (EP X pins σ Q) X.xe s
def TruR (X : Cx) (r : V → Hp → (Bool → Hp → Prop) → Prop) : Prop :=
  ∀ (pins : List (Addr × Obj)) (s : Shared) (σ : St) (H : Hp) (x : V) (v : Value) (Q : Bool → Hp → Prop), Inv X pins σ H s → RelV x v → r x H Q →
    wpAny (model X.prog X.w) X.A (truthy v) (TP X pins σ Q) X.xe s
def tOp (r : R2) (ta tb : TE) : TE := fun σ H Q => ta σ H fun x H1 => tb σ H1 fun y H2 => r x y H2 Q
def tUn (r : V → Hp → VK → Prop) (ta : TE) : TE := fun σ H Q => ta σ H fun x H1 => r x H1 Q
def rI (C : Int → Int → Prop) (g : Int → Int → V) : R2 := fun x y H Q => ∃ i j, x = .int i ∧ y = .int j ∧ C i j ∧ Q (g i j) H
def rI0 (g : Int → Int → V) : R2 := fun x y H Q => ∃ i j, x = .int i ∧ y = .int j ∧ Q (g i j) H
def rU (g : Int → V) : V → Hp → VK → Prop := fun x H Q => ∃ i, x = .int i ∧ Q (g i) H
section
variable {X : Cx} {a b c : Expr} {ta tb tc : TE} {pos : Pos}
theorem binT (ha : PE X a ta) (hb : PE X b tb) {pins : List (Addr × Obj)} {s : Shared} {σ : St} {H : Hp} {R : V → V → Hp → Prop} (I : Inv X pins σ H s)
    (h : ta σ H fun x H1 => tb σ H1 fun y H2 => R x y H2) {Q : Value → Shared → Prop} {f : Value → Value → Sem Value}
    (hf : ∀ v u s2 x y H2, Inv X pins σ H2 s2 → RelV x v → RelV y u → R x y H2 → wpAny (model X.prog X.w) X.A (f v u) Q X.xe s2) :
    wpAny (model X.prog X.w) X.A (eval a X.env) (fun v s₁ => wpAny (model X.prog X.w) X.A (eval b X.env) (fun u s₂ => wpAny (model X.prog X.w) X.A (f v u) Q X.xe s₂) X.xe s₁) X.xe s := by
  refine thn (ha pins s σ H _ I h) fun v s1 ⟨x, H1, I1, r1, q1⟩ => ?_
  refine thn (hb pins s1 σ H1 _ I1 q1) fun u s2 ⟨y, H2, I2, r2, q2⟩ => ?_
  exact hf v u s2 x y H2 I2 r1 r2 q2
theorem pe_op {op : Operator} {r : R2} (ho : OpR X (binaryOp op) r) (ha : PE X a ta) (hb : PE X b tb) : PE X (.BinOp a op b pos) (tOp r ta tb) := by
  intro pins s σ H Q I h
  exact wpAny_BinOp (binT ha hb I h fun v u s2 x y H2 I2 rx ry q => ho pins s2 σ H2 x y v u Q I2 rx ry q)
theorem pe_un {op : UnaryOp} {r : V → Hp → VK → Prop} (ho : UnR X (unaryOp op) r) (ha : PE X a ta) : PE X (.UnaryOp op a pos) (tUn r ta) := by
  intro pins s σ H Q I h
  exact UnaryOp_ (thn (ha pins s σ H _ I h) fun v s1 ⟨x, H1, I1, r1, q1⟩ => ho pins s1 σ H1 x v Q I1 r1 q1)
theorem opI {f : Value → Value → Sem Value} {C : Int → Int → Prop} {g : Int → Int → Int}
    (rule : ∀ (i j : Int) (t u : Tok) (s : Shared) (Q : Value → Shared → Prop) (E : Value → Shared → Prop), C i j → Q (.int (g i j) s.toks) { s with toks := s.toks + 1 } → wpAny (model X.prog X.w) X.A (f (.int i t) (.int j u)) Q E s) :
    OpR X f (rI C fun i j => .int (g i j)) := by
  intro pins s σ H x y v u Q I rx ry h
  obtain ⟨i, j, rfl, rfl, hc, q⟩ := h
  obtain ⟨t, rfl⟩ := rx
  obtain ⟨t', rfl⟩ := ry
  exact rule i j t t' s _ _ hc ⟨.int (g i j), H, I.tok _, ⟨_, rfl⟩, q⟩
theorem opI0 {f : Value → Value → Sem Value} {g : Int → Int → Int}
    (rule : ∀ (i j : Int) (t u : Tok) (s : Shared) (Q : Value → Shared → Prop) (E : Value → Shared → Prop), Q (.int (g i j) s.toks) { s with toks := s.toks + 1 } → wpAny (model X.prog X.w) X.A (f (.int i t) (.int j u)) Q E s) :
    OpR X f (rI0 fun i j => .int (g i j)) := by
  intro pins s σ H x y v u Q I rx ry h
  obtain ⟨i, j, rfl, rfl, q⟩ := h
  obtain ⟨t, rfl⟩ := rx
  obtain ⟨t', rfl⟩ := ry
  exact rule i j t t' s _ _ ⟨.int (g i j), H, I.tok _, ⟨_, rfl⟩, q⟩
theorem opB0 {f : Value → Value → Sem Value} {g : Int → Int → Bool}
    (rule : ∀ (i j : Int) (t u : Tok) (s : Shared) (Q : Value → Shared → Prop) (E : Value → Shared → Prop), Q (.bool (g i j)) s → wpAny (model X.prog X.w) X.A (f (.int i t) (.int j u)) Q E s) :
    OpR X f (rI0 fun i j => .bl (g i j)) := by
  intro pins s σ H x y v u Q I rx ry h
  obtain ⟨i, j, rfl, rfl, q⟩ := h
  obtain ⟨t, rfl⟩ := rx
  obtain ⟨t', rfl⟩ := ry
  exact rule i j t t' s _ _ ⟨.bl (g i j), H, I, rfl, q⟩
def CDiv (i j : Int) : Prop := 0 < j ∧ j < 1073741824
def CPow (i j : Int) : Prop := 0 ≤ j ∧ j ≤ 1000000 ∧ i.natAbs < 2 ^ 64
def CMul (i j : Int) : Prop := (-(2 ^ 64) < i ∧ i < 2 ^ 64) ∨ (-(2 ^ 64) < j ∧ j < 2 ^ 64)
theorem CMul.ok {i j : Int} (h : CMul i j) : IntMulOk i j := by
  rcases h with ⟨h1, h2⟩ | ⟨h1, h2⟩
  · exact .of_left (intBits_le_64 h1 h2)
  · exact .of_right (intBits_le_64 h1 h2)
theorem op_add : OpR X (binaryOp .Add) (rI0 fun i j => .int (i + j)) := opI0 fun _ _ _ _ _ _ _ q => add_int q
theorem op_sub : OpR X (binaryOp .Sub) (rI0 fun i j => .int (i - j)) := opI0 fun _ _ _ _ _ _ _ q => sub_int q
theorem op_mul : OpR X (binaryOp .Mult) (rI CMul fun i j => .int (i * j)) := opI fun _ _ _ _ _ _ _ hc q => mul_int q hc.ok
theorem op_fdiv : OpR X (binaryOp .FloorDiv) (rI CDiv fun i j => .int (i / j)) := opI fun i j _ _ _ _ _ hc q => by
  have h1 : (0 : Int) < j := hc.1
  have h2 : j < 1073741824 := hc.2
  exact floordiv_int (by omega) (by rw [Int.fdiv_eq_ediv_of_nonneg i (by omega)]; exact q) (.inl (PyProof.noPylong_small (by omega)))
theorem op_mod : OpR X (binaryOp .Mod) (rI (fun _ j => 0 < j) fun i j => .int (i % j)) := opI fun i j _ _ _ _ _ hc q => by
  have h1 : (0 : Int) < j := hc
  exact mod_int' (by omega) (by rw [Int.fmod_eq_emod_of_nonneg i (by omega)]; exact q)
theorem op_pow : OpR X (binaryOp .Pow) (rI CPow fun i j => .int (i ^ j.toNat)) := opI fun _ _ _ _ _ _ _ hc q => pow_int_small hc.1 hc.2.1 hc.2.2 q
theorem unI {f : Value → Sem Value} {g : Int → Int}
    (rule : ∀ (i : Int) (t : Tok) (s : Shared) (Q : Value → Shared → Prop) (E : Value → Shared → Prop), Q (.int (g i) s.toks) { s with toks := s.toks + 1 } → wpAny (model X.prog X.w) X.A (f (.int i t)) Q E s) :
    UnR X f (rU fun i => .int (g i)) := by
  intro pins s σ H x v Q I rx h
  obtain ⟨i, rfl, q⟩ := h
  obtain ⟨t, rfl⟩ := rx
  exact rule i t s _ _ ⟨.int (g i), H, I.tok _, ⟨_, rfl⟩, q⟩
theorem un_neg : UnR X (unaryOp .USub) (rU fun i => .int (-i)) := unI fun _ _ _ _ _ q => neg_int q
end
def scal : V → V → Bool
  | .non, .non => true | .non, .int _ => true | .int _, .non => true | .non, .bl _ => true | .bl _, .non => true | .non, .str _ => true | .str _, .non => true
  | .int _, .int _ => true | .bl _, .bl _ => true | .str _, .str _ => true | .byt _, .byt _ => true
  | .int _, .str _ => true | .str _, .int _ => true | .bl _, .str _ => true | .str _, .bl _ => true
  | _, _ => false
def rEq : R2 := fun x y H Q => scal x y = true ∧ Q (.bl (decide (x = y))) H
def rNe : R2 := fun x y H Q => scal x y = true ∧ Q (.bl (!decide (x = y))) H
theorem dec_int {i j : Int} : decide (V.int i = V.int j) = (i == j) := by
  rw [Bool.eq_iff_iff]
  simp
theorem dec_bl {i j : Bool} : decide (V.bl i = V.bl j) = (i == j) := by
  rw [Bool.eq_iff_iff]
  simp
theorem dec_str {i j : Str} : decide (V.str i = V.str j) = (i == j) := by
  rw [Bool.eq_iff_iff]
  simp
theorem dec_byt {i j : Array UInt8} : decide (V.byt i = V.byt j) = (i.toList == j.toList) := by
  rw [Bool.eq_iff_iff]
  cases i
  cases j
  simp
section
variable {X : Cx} {a b c : Expr} {ta tb tc : TE} {pos : Pos}
theorem fin_bl {pins : List (Addr × Obj)} {σ : St} {H : Hp} {s : Shared} {Q : VK} {k k' : Bool} (I : Inv X pins σ H s) (q : Q (.bl k) H) (e : k = k') : EP X pins σ Q (.bool k') s := by
  subst e
  exact ⟨.bl k, H, I, rfl, q⟩
theorem op_eq : OpR X (compareOp .Eq) rEq := by
  intro pins s σ H x y v u Q I rx ry h
  obtain ⟨hs, q⟩ := h
  cases x with
  | non =>
    cases rx
    cases y with
    | non => cases ry; exact PySem.EqNone.eq_none_none (fin_bl I q (by simp))
    | bl j => cases ry; exact PySem.EqNone.eq_none_bool (fin_bl I q (by simp))
    | int j => obtain ⟨t', rfl⟩ := ry; exact PySem.EqNone.eq_none_int (fin_bl I q (by simp))
    | str j => obtain ⟨t', rfl⟩ := ry; exact PySem.EqNone.eq_none_str (fin_bl I q (by simp))
    | _ => exact absurd (show false = true from hs) Bool.false_ne_true
  | bl i =>
    cases rx
    cases y with
    | non => cases ry; exact PySem.EqNone.eq_bool_none (fin_bl I q (by simp))
    | bl j => cases ry; exact eq_bool (fin_bl I q dec_bl)
    | str j => obtain ⟨t', rfl⟩ := ry; exact PySem.EqMixed.eq_bool_str (fin_bl I q (by simp))
    | _ => exact absurd (show false = true from hs) Bool.false_ne_true
  | int i =>
    obtain ⟨t, rfl⟩ := rx
    cases y with
    | non => cases ry; exact PySem.EqNone.eq_int_none (fin_bl I q (by simp))
    | int j => obtain ⟨t', rfl⟩ := ry; exact eq_int (fin_bl I q dec_int)
    | str j => obtain ⟨t', rfl⟩ := ry; exact PySem.EqMixed.eq_int_str (fin_bl I q (by simp))
    | _ => exact absurd (show false = true from hs) Bool.false_ne_true
  | str i =>
    obtain ⟨t, rfl⟩ := rx
    cases y with
    | non => cases ry; exact PySem.EqNone.eq_str_none (fin_bl I q (by simp))
    | bl j => cases ry; exact PySem.EqMixed.eq_str_bool (fin_bl I q (by simp))
    | int j => obtain ⟨t', rfl⟩ := ry; exact PySem.EqMixed.eq_str_int (fin_bl I q (by simp))
    | str j => obtain ⟨t', rfl⟩ := ry; exact eq_str (fin_bl I q dec_str)
    | _ => exact absurd (show false = true from hs) Bool.false_ne_true
  | byt i =>
    obtain ⟨t, rfl⟩ := rx
    cases y with
    | byt j => obtain ⟨t', rfl⟩ := ry; exact PySem.W.eq_bytes (fin_bl I q dec_byt)
    | _ => exact absurd (show false = true from hs) Bool.false_ne_true
  | _ => cases y <;> exact absurd (show false = true from hs) Bool.false_ne_true
theorem op_ne : OpR X (compareOp .NotEq) rNe := by
  intro pins s σ H x y v u Q I rx ry h
  obtain ⟨hs, q⟩ := h
  cases x with
  | non =>
    cases rx
    cases y with
    | non => cases ry; exact PySem.EqNone.ne_none_none (fin_bl I q (by simp))
    | bl j => cases ry; exact PySem.EqNone.ne_none_bool (fin_bl I q (by simp))
    | int j => obtain ⟨t', rfl⟩ := ry; exact PySem.EqNone.ne_none_int (fin_bl I q (by simp))
    | str j => obtain ⟨t', rfl⟩ := ry; exact PySem.EqNone.ne_none_str (fin_bl I q (by simp))
    | _ => exact absurd (show false = true from hs) Bool.false_ne_true
  | bl i =>
    cases rx
    cases y with
    | non => cases ry; exact PySem.EqNone.ne_bool_none (fin_bl I q (by simp))
    | bl j => cases ry; exact ne_bool (fin_bl I q (congrArg not dec_bl))
    | str j => obtain ⟨t', rfl⟩ := ry; exact PySem.EqMixed.ne_bool_str (fin_bl I q (by simp))
    | _ => exact absurd (show false = true from hs) Bool.false_ne_true
  | int i =>
    obtain ⟨t, rfl⟩ := rx
    cases y with
    | non => cases ry; exact PySem.EqNone.ne_int_none (fin_bl I q (by simp))
    | int j => obtain ⟨t', rfl⟩ := ry; exact ne_int (fin_bl I q (congrArg not dec_int))
    | str j => obtain ⟨t', rfl⟩ := ry; exact PySem.EqMixed.ne_int_str (fin_bl I q (by simp))
    | _ => exact absurd (show false = true from hs) Bool.false_ne_true
  | str i =>
    obtain ⟨t, rfl⟩ := rx
    cases y with
    | non => cases ry; exact PySem.EqNone.ne_str_none (fin_bl I q (by simp))
    | bl j => cases ry; exact PySem.EqMixed.ne_str_bool (fin_bl I q (by simp))
    | int j => obtain ⟨t', rfl⟩ := ry; exact PySem.EqMixed.ne_str_int (fin_bl I q (by simp))
    | str j => obtain ⟨t', rfl⟩ := ry; exact ne_str (fin_bl I q (congrArg not dec_str))
    | _ => exact absurd (show false = true from hs) Bool.false_ne_true
  | byt i =>
    obtain ⟨t, rfl⟩ := rx
    cases y with
    | byt j => obtain ⟨t', rfl⟩ := ry; exact PySem.W.ne_bytes (fin_bl I q (congrArg not dec_byt))
    | _ => exact absurd (show false = true from hs) Bool.false_ne_true
  | _ => cases y <;> exact absurd (show false = true from hs) Bool.false_ne_true
theorem op_lt : OpR X (compareOp .Lt) (rI0 fun i j => .bl (decide (i < j))) := opB0 fun _ _ _ _ _ _ _ q => lt_int q
theorem op_le : OpR X (compareOp .LtE) (rI0 fun i j => .bl (decide (i ≤ j))) := opB0 fun _ _ _ _ _ _ _ q => le_int q
theorem op_gt : OpR X (compareOp .Gt) (rI0 fun i j => .bl (decide (j < i))) := opB0 fun _ _ _ _ _ _ _ q => gt_int q
theorem op_in_str : OpR X (compareOp .In) (fun x y H Q => ∃ i j, x = .str i ∧ y = .str j ∧ Q (.bl (!(Builtin.Str.occurrences j i 0 j.length 1).isEmpty)) H) := by
  intro pins s σ H x y v u Q I rx ry h
  obtain ⟨i, j, rfl, rfl, q⟩ := h
  obtain ⟨t, rfl⟩ := rx
  obtain ⟨t', rfl⟩ := ry
  exact in_str (fin_bl I q rfl)
theorem nomark (b : Expr) {op : CmpOp} (h : op ≠ .In := by decide) (h2 : op ≠ .NotIn := by decide) : behindInMarks op b = false := by
  have e1 : (op == CmpOp.In) = false := by cases op <;> first | rfl | exact absurd rfl h
  have e2 : (op == CmpOp.NotIn) = false := by cases op <;> first | rfl | exact absurd rfl h2
  cases b <;> simp [behindInMarks, e1, e2]
theorem pe_cmpR {op : CmpOp} {r : R2} (ho : OpR X (compareOp op) r) (ha : PE X a ta) (hb : PE X b tb) (hm : behindInMarks op b = false) : PE X (.Compare a [op] [b] pos) (tOp r ta tb) := by
  intro pins s σ H Q I h
  exact wpAny_Compare1 (binT ha hb I h fun v u s2 x y H2 I2 rx ry q => ho pins s2 σ H2 x y v u Q I2 rx ry q) hm
def tTest (t : TE) : TT := fun σ H Q => t σ H fun x H' => ∃ k, x = .bl k ∧ Q k H'
theorem pt_cmpR {op : CmpOp} {r : R2} (ho : OpR X (compareOp op) r) (ha : PE X a ta) (hb : PE X b tb) (hm : behindInMarks op b = false) : PT X (.Compare a [op] [b] pos) (tTest (tOp r ta tb)) := by
  intro pins s σ H Q I h
  refine wpAny_isTrue_Compare1 (thn (ha pins s σ H _ I h) fun v s1 ⟨x, H1, I1, r1, q1⟩ => thn (hb pins s1 σ H1 _ I1 q1) fun u s2 ⟨y, H2, I2, r2, q2⟩ =>
    thn (ho pins s2 σ H2 x y v u _ I2 r1 r2 q2) fun c s3 ⟨z, H3, I3, r3, k, e, q3⟩ => ?_) hm
  subst e
  cases r3
  exact wpAny_truthy_bool ⟨H3, I3, q3⟩
def tChain (r r' : R2) (ta tb tc : TE) : TE := fun σ H Q => ta σ H fun x H1 => tb σ H1 fun y H2 => r x y H2 fun z H3 => ∃ k, z = .bl k ∧
  (if k = true then tc σ H3 fun w' H4 => r' y w' H4 Q else Q (.bl false) H3)
theorem pe_chain {op op' : CmpOp} {r r' : R2} (ho : OpR X (compareOp op) r) (ho' : OpR X (compareOp op') r') (ha : PE X a ta) (hb : PE X b tb) (hc : PE X c tc)
    (hm : lastMarks [op, op'] [b, c] = false := by with_unfolding_all rfl) : PE X (.Compare a [op, op'] [b, c] pos) (tChain r r' ta tb tc) := by
  intro pins s σ H Q I h
  refine Compare_chain (thn (ha pins s σ H _ I h) fun v s1 ⟨x, H1, I1, r1, q1⟩ => chain_link (thn (hb pins s1 σ H1 _ I1 q1) fun u s2 ⟨y, H2, I2, r2, q2⟩ =>
    thn (ho pins s2 σ H2 x y v u _ I2 r1 r2 q2) fun d s3 ⟨z, H3, I3, r3, k, e, q3⟩ => ?_)) hm
  subst e
  cases r3
  refine wpAny_truthy_bool ?_
  cases k with
  | false => exact ite_ff ⟨.bl false, H3, I3, rfl, q3⟩
  | true => exact ite_tt (chain_last (thn (hc pins s3 σ H3 _ I3 q3) fun w' s4 ⟨z', H4, I4, r4, q4⟩ => ho' pins s4 σ H4 y z' u w' Q I4 r2 r4 q4))
theorem pt_chain {op op' : CmpOp} {r r' : R2} (ho : OpR X (compareOp op) r) (ho' : OpR X (compareOp op') r') (ha : PE X a ta) (hb : PE X b tb) (hc : PE X c tc)
    (hm : lastMarks [op, op'] [b, c] = false := by with_unfolding_all rfl) : PT X (.Compare a [op, op'] [b, c] pos) (tTest (tChain r r' ta tb tc)) := by
  intro pins s σ H Q I h
  refine isTrue_chain (thn (ha pins s σ H _ I h) fun v s1 ⟨x, H1, I1, r1, q1⟩ => test_link (thn (hb pins s1 σ H1 _ I1 q1) fun u s2 ⟨y, H2, I2, r2, q2⟩ =>
    thn (ho pins s2 σ H2 x y v u _ I2 r1 r2 q2) fun d s3 ⟨z, H3, I3, r3, k, e, q3⟩ => ?_)) hm
  subst e
  cases r3
  refine wpAny_truthy_bool ?_
  cases k with
  | false =>
    obtain ⟨k', e', q'⟩ := q3
    cases e'
    exact ite_ff ⟨H3, I3, q'⟩
  | true =>
    refine ite_tt (test_last (thn (hc pins s3 σ H3 _ I3 q3) fun w' s4 ⟨z', H4, I4, r4, q4⟩ => thn (ho' pins s4 σ H4 y z' u w' _ I4 r2 r4 q4) fun d' s5 ⟨z2, H5, I5, r5, k2, e2, q5⟩ => ?_))
    subst e2
    cases r5
    exact wpAny_truthy_bool ⟨H5, I5, q5⟩
def TruV (K : PySem.W.Frag) (x : V) (H : Hp) (k : Bool) : Prop :=
  match x with
  | .non => k = false
  | .bl b => k = b
  | .int i => k = (i != 0)
  | .str y => y.length ≤ sizeLine ∧ k = ((y.length : Int) != 0)
  | .byt y => y.size ≤ sizeLine ∧ k = ((y.size : Int) != 0)
  | .ref p => (∃ xs, SqL K H p xs ∧ k = !xs.isEmpty) ∨ (∃ xs, SqT K H p xs ∧ k = !xs.isEmpty) ∨ ∃ kvs, H p = some (.dK kvs) ∧ k = !kvs.isEmpty
  | _ => False
theorem isEmpty_kv {κ : Type} {kvs : List (κ × V)} {vs : List (κ × Value)} (r : KV kvs vs) : (!vs.isEmpty) = !kvs.isEmpty := by
  cases r <;> rfl
theorem isEmpty_of {xs : List V} {its : List Value} (r : Vals xs its) : (!its.toArray.isEmpty) = !xs.isEmpty := by
  cases r <;> simp
theorem line63 : (sizeLine : Nat) < 2 ^ 63 := by rw [sizeLine_eq]; decide
theorem tru_ok : TruR X (fun x H Q => ∃ k, TruV X.K x H k ∧ Q k H) := by
  intro pins s σ H x v Q I rx h
  obtain ⟨k, e, q⟩ := h
  have hl := line63
  have hs : sizeLine = 16777216 := sizeLine_eq
  cases x with
  | non =>
    cases rx
    have e' : k = false := e
    subst e'
    exact truthy_none ⟨H, I, q⟩
  | bl b =>
    cases rx
    have e' : k = b := e
    subst e'
    exact wpAny_truthy_bool ⟨H, I, q⟩
  | int i =>
    obtain ⟨t, rfl⟩ := rx
    have e' : k = (i != 0) := e
    subst e'
    exact PySem.P.truthy_int ⟨H, I, q⟩
  | str y =>
    obtain ⟨t, rfl⟩ := rx
    obtain ⟨hy, e'⟩ : y.length ≤ sizeLine ∧ k = ((y.length : Int) != 0) := e
    subst e'
    exact PySem.P.truthy_str (by omega) ⟨H, I.tok _, q⟩
  | byt y =>
    obtain ⟨t, rfl⟩ := rx
    obtain ⟨hy, e'⟩ : y.size ≤ sizeLine ∧ k = ((y.size : Int) != 0) := e
    subst e'
    exact PySem.W.truthy_bytes (by omega) ⟨H, I.tok _, q⟩
  | ref p =>
    cases rx
    have e' : (∃ xs, SqL X.K H p xs ∧ k = !xs.isEmpty) ∨ (∃ xs, SqT X.K H p xs ∧ k = !xs.isEmpty) ∨ ∃ kvs, H p = some (.dK kvs) ∧ k = !kvs.isEmpty := e
    rcases e' with ⟨xs, hx, e'⟩ | ⟨xs, hx, e'⟩ | ⟨kvs, hx, e'⟩
    · subst e'
      obtain ⟨its, r, pl, hz⟩ := I.list hx
      have hlen := r.length
      exact wpAny_truthy_list pl.isList (by simp only [List.size_toArray]; omega) ⟨H, I.tok _, by rw [isEmpty_of r]; exact q⟩
    · subst e'
      obtain ⟨its, r, pl, hz⟩ := I.tuple hx
      have hlen := r.length
      exact truthy_tuple pl (by simp only [List.size_toArray]; omega) ⟨H, I.tok _, by rw [isEmpty_of r]; exact q⟩
    · subst e'
      obtain ⟨hz, hS, vs, r, m⟩ : kvs.length ≤ sizeLine ∧ (p == sysModules) = false ∧ ∃ vs, KV kvs vs ∧ s.heap.DictOf (mixKind X.prog X.w) p vs := I.hok p _ hx
      have hlen : kvs.length = vs.length := Paired.length r
      exact wpAny_truthy_dict hS m (by omega) ⟨H, I.tok _, by rw [isEmpty_kv r]; exact q⟩
  | _ => exact (show False from e).elim
theorem pt_truth (ha : PE X a ta) (he : ∀ whole, isTrue a X.env whole = (do let v ← whole; standAt a.pos; holding [v] (truthy v))) :
    PT X a (fun σ H Q => ta σ H fun x H' => ∃ k, TruV X.K x H' k ∧ Q k H') := by
  intro pins s σ H Q I h
  exact isTrue_plain (thn (ha pins s σ H _ I h) fun v s1 ⟨x, H1, I1, r1, q1⟩ => tru_ok pins s1 σ H1 x v Q I1 r1 q1) (he _)
theorem vals1 {x : V} {us : List Value} (r : Vals [x] us) : ∃ u, us = [u] ∧ RelV x u := by
  cases r with
  | cons r1 r2 => cases r2; exact ⟨_, rfl, r1⟩
theorem vals2 {x y : V} {us : List Value} (r : Vals [x, y] us) : ∃ u w', us = [u, w'] ∧ RelV x u ∧ RelV y w' := by
  cases r with
  | cons r1 r2 =>
    cases r2 with
    | cons r3 r4 => cases r4; exact ⟨_, _, rfl, r1, r3⟩
theorem call_max2 (hc : X.calm = true) : CallR X (.builtin "max") (fun xs H Q => ∃ i j, xs = [.int i, .int j] ∧ Q (.int (if j > i then j else i)) H) := by
  intro pins s σ H xs us Q I r h
  obtain ⟨i, j, rfl, q⟩ := h
  obtain ⟨u, w', rfl, ⟨t, rfl⟩, ⟨t', rfl⟩⟩ := vals2 r
  refine max_two_ints (I.ok.hd hc) fun h' tk k => ⟨_, H, I.kept k, ?_, q⟩
  by_cases hj : j > i
  · rw [if_pos hj, if_pos hj]; exact ⟨_, rfl⟩
  · rw [if_neg hj, if_neg hj]; exact ⟨_, rfl⟩
theorem call_min2 (hc : X.calm = true) : CallR X (.builtin "min") (fun xs H Q => ∃ i j, xs = [.int i, .int j] ∧ Q (.int (if j < i then j else i)) H) := by
  intro pins s σ H xs us Q I r h
  obtain ⟨i, j, rfl, q⟩ := h
  obtain ⟨u, w', rfl, ⟨t, rfl⟩, ⟨t', rfl⟩⟩ := vals2 r
  refine min_two_ints (I.ok.hd hc) fun h' tk k => ⟨_, H, I.kept k, ?_, q⟩
  by_cases hj : j < i
  · rw [if_pos hj, if_pos hj]; exact ⟨_, rfl⟩
  · rw [if_neg hj, if_neg hj]; exact ⟨_, rfl⟩
theorem call_int1 : CallR X (.type "int") (fun xs H Q => (∃ i, xs = [.int i] ∧ Q (.int i) H) ∨ ∃ k, xs = [.bl k] ∧ Q (.int (if k then 1 else 0)) H) := by
  intro pins s σ H xs us Q I r h
  rcases h with ⟨i, rfl, q⟩ | ⟨k, rfl, q⟩
  · obtain ⟨u, rfl, t, rfl⟩ := vals1 r
    exact call_int_int ⟨.int i, H, I, ⟨_, rfl⟩, q⟩
  · obtain ⟨u, rfl, r1⟩ := vals1 r
    cases r1
    exact call_int_bool ⟨.int (if k then 1 else 0), H, I.tok _, ⟨_, rfl⟩, q⟩
end
end L2
namespace L2
open PySem PySem.Spec PyProof.Rows
structure ObjM (h : Heap) (x dx C : Addr) (mA : Str → Option Value) : Prop where
  obj : h.get? x = some (PySem.W.instObj C dx)
  ns : h.Ns1 dx mA
  ne : dx ≠ x
theorem lookIn_ns {h : Heap} {dx : Addr} {mA : Str → Option Value} (n : h.Ns1 dx mA) : ∃ od, h.get? dx = some od ∧ ∀ name, PySem.W.lookIn name od = some (mA name) := by
  obtain ⟨o, es, ep, ho, hd, hk, _, hm⟩ := n
  refine ⟨o, ho, fun name => ?_⟩
  have e := hm name
  unfold nsFind findBy at e
  rw [← Array.find?_toList] at e
  unfold PySem.W.lookIn
  rw [hd]
  dsimp only
  split
  · rename_i y q
    rw [q] at e
    exact congrArg some e
  · rename_i q
    rw [q] at e
    have a : es.toList.any (·.refKey) = false := by
      rw [List.any_eq_false]
      intro y hy
      obtain ⟨z, t, hkey⟩ := hk y (Array.mem_toList_iff.mp hy)
      simp [DictEntry.refKey, hkey]
    have a' : ¬ es.toList.any (·.refKey) = true := by rw [a]; exact Bool.false_ne_true
    rw [if_neg a']
    exact congrArg some e
theorem ObjM.look {h : Heap} {x dx C : Addr} {mA : Str → Option Value} (I : ObjM h x dx C mA) : ∃ od, PySem.W.InstAt h x (PySem.W.instObj C dx) C (some od) ∧ ∀ name, PySem.W.lookIn name od = some (mA name) :=
  let ⟨od, ho, hl⟩ := lookIn_ns I.ns
  ⟨od, ⟨I.obj, rfl, rfl, ho⟩, hl⟩
section
variable {prog : Program} {w : World} {A : Around} {E : Value → Shared → Prop} {s : Shared} {K : PySem.W.Frag} {x dx C f : Addr} {mA : Str → Option Value} {name : Str} {v : Value}
end
theorem RelO.some_of {v : V} {o : Option Value} (r : RelO (some v) o) : ∃ u, o = some u ∧ RelV v u := by
  cases o with
  | none => exact (show False from r).elim
  | some u => exact ⟨u, rfl, r⟩
section
variable {P : Program} {w : World} {H H' : Hp} {h h' : Heap} {a C dx : Addr} {fs fs' : List (Str × V)}
theorem ins_get (hok : HOk P w H h) (e : H a = some (.ins C dx fs)) : ∃ mA, ObjM h a dx C mA ∧ (∀ f, RelO (fs.lookup f) (mA f)) ∧ PySem.Within mA (fs.map (·.1)) ∧ fs.length ≤ 1000 ∧ H dx = some (.own a) := by
  obtain ⟨d, z, ne, ob, mA, n, r, q⟩ := (show ObjOk P w H h a (.ins C dx fs) from hok a _ e)
  exact ⟨mA, ⟨ob, n, ne⟩, r, q, z, d⟩
end
structure Cls (K : PySem.W.Frag) (C : Addr) : Prop where
  pg : PySem.W.plainGet K C Str.empty = true
  hd : PySem.W.hasDictIn K C = true
  po : PySem.W.plainOver K C = true
  sa : PySem.W.findIn K (.ref C) "__setattr__" = some (some (.builtin "object.__setattr__"))
theorem Cls.get {K : PySem.W.Frag} {C : Addr} (c : Cls K C) (f : Str) : PySem.W.plainGet K C f = true := c.pg
def NoAttr (K : PySem.W.Frag) (C : Addr) (f : Str) : Prop := PySem.W.findIn K (.ref C) f = some none
structure Con (K : PySem.W.Frag) (C : Addr) (f : Str) (v : V) (u : Value) : Prop where
  at_ : PySem.W.findIn K (.ref C) f = some (some u)
  rel : RelV v u
  get : PySem.W.specialIn K u "__get__" = some none
  cp : PySem.W.copiedNames.contains f = false
structure Meth (K : PySem.W.Frag) (C : Addr) (m : Str) (f : Addr) : Prop where
  at_ : PySem.W.findIn K (.ref C) m = some (some (.ref f))
  fn : PySem.W.isFn K (.ref f) = true
  kp : PySem.W.keepIn K (.ref f) = true
section
variable {X : Cx} {pins : List (Addr × Obj)} {σ : St} {H : Hp} {s : Shared} {a C dx : Addr} {fs : List (Str × V)} {f : Str} {v : V} {A : Around} {E : Value → Shared → Prop}
end
section
variable {X : Cx} {o e value : Expr} {f : Str} {pos pos' tpos : Pos} {ta tv : TE}
end
section
variable {X : Cx} {pins : List (Addr × Obj)} {σ : St} {H : Hp} {s : Shared} {A : Around} {E : Value → Shared → Prop} {Q : Value → Shared → Prop} {c : Value} {b : Bool}
inductive TyOf (K : PySem.W.Frag) (H : Hp) : V → Value → Prop where
  | non : TyOf K H .non (.type "NoneType")
  | bl (x : Bool) : TyOf K H (.bl x) (.type "bool")
  | int (i : Int) : TyOf K H (.int i) (.type "int")
  | str (x : Str) : TyOf K H (.str x) (.type "str")
  | flt (x : UInt64) : TyOf K H (.flt x) (.type "float")
  | lst {a : Addr} {xs : List V} (e : H a = some (.lst xs)) : TyOf K H (.ref a) (.type "list")
  | frz {a : Addr} {o : Obj} {xs : List V} (e : H a = some (.frz o (.lst xs))) : TyOf K H (.ref a) (.type "list")
  | tup {a : Addr} {xs : List V} (e : H a = some (.tup xs)) : TyOf K H (.ref a) (.type "tuple")
  | dK {a : Addr} {kvs : List (Key × V)} (e : H a = some (.dK kvs)) : TyOf K H (.ref a) (.type "dict")
  | dT {a : Addr} {kvs : List (List Key × V)} (e : H a = some (.dT kvs)) : TyOf K H (.ref a) (.type "dict")
  | ins {a C dx : Addr} {fs : List (Str × V)} (e : H a = some (.ins C dx fs)) (cl : Cls K C) (ha : PySem.W.findIn K (.ref C) "__class__" = some (some (.builtin "object.__class__")))
      (hn : PySem.W.specialIn K (.builtin "object.__class__") "__get__" = some (some (.builtin "getset_descriptor.__get__"))) (htk : PySem.W.takesIn K (.builtin "object.__class__") = some true)
      (hm : PySem.W.mroIn K C (.type "object") = some true) : TyOf K H (.ref a) (.ref C)
theorem isinst_ok {x : V} {u t : Value} (I : Inv X pins σ H s) (rx : RelV x u) (ty : TyOf X.K H x t) (e : PySem.W.kitOne X.K t c = some b) (h : ∀ tk, Q (.bool b) { s with toks := tk }) :
    wpAny (model X.prog X.w) A (call (.builtin "isinstance") [u, c]) Q E s := by
  cases ty with
  | non => cases (show u = Value.none from rx); exact PySem.W.kia_one PySem.W.kitx_none I.kIn True.intro e (fun z => nomatch z) h
  | bl y => cases (show u = Value.bool y from rx); exact PySem.W.kia_one PySem.W.kitx_bool I.kIn True.intro e (fun z => nomatch z) h
  | int i => obtain ⟨t, q⟩ := (show ∃ t, u = Value.int i t from rx); cases q; exact PySem.W.kia_one PySem.W.kitx_int I.kIn True.intro e (fun z => nomatch z) h
  | str y => obtain ⟨t, q⟩ := (show ∃ t, u = Value.str y t from rx); cases q; exact PySem.W.kia_one PySem.W.kitx_str I.kIn True.intro e (fun z => nomatch z) h
  | flt y => obtain ⟨t, q⟩ := (show ∃ t, u = Value.float y t from rx); cases q; exact PySem.W.kia_one PySem.W.kitx_float I.kIn True.intro e (fun z => nomatch z) h
  | @lst a xs ea =>
    cases (show u = Value.ref a from rx)
    obtain ⟨_, _, n, _, h1⟩ := (show ObjOk X.prog X.w H s.heap a (.lst xs) from I.hok a _ ea)
    exact PySem.W.kia_one PySem.W.kitx_list I.kIn ⟨_, h1, rfl⟩ e (fun z => nomatch z) h
  | @frz a ob xs ea =>
    cases (show u = Value.ref a from rx)
    obtain ⟨_, _, _, n, _, h1⟩ := (show ObjOk X.prog X.w H s.heap a (.frz ob (.lst xs)) from I.hok a _ ea)
    exact PySem.W.kia_one PySem.W.kitx_list I.kIn ⟨_, h1, rfl⟩ e (fun z => nomatch z) h
  | @tup a xs ea =>
    cases (show u = Value.ref a from rx)
    obtain ⟨_, _, _, p⟩ := (show ObjOk X.prog X.w H s.heap a (.tup xs) from I.hok a _ ea)
    obtain ⟨o, h1, h2, _⟩ := p
    exact PySem.W.kia_one PySem.W.kitx_tuple I.kIn ⟨o, h1, h2⟩ e (fun z => nomatch z) h
  | @dK a kvs ea =>
    cases (show u = Value.ref a from rx)
    obtain ⟨_, _, vs, _, p⟩ := (show ObjOk X.prog X.w H s.heap a (.dK kvs) from I.hok a _ ea)
    obtain ⟨o, es, ep, h1, h2, _⟩ := p
    exact PySem.W.kia_one PySem.W.kitx_dict I.kIn ⟨o, h1, h2.1⟩ e (fun z => nomatch z) h
  | @dT a kvs ea =>
    cases (show u = Value.ref a from rx)
    obtain ⟨_, _, xs, _, o, es, ep, h1, h2, _⟩ := (show ObjOk X.prog X.w H s.heap a (.dT kvs) from I.hok a _ ea)
    exact PySem.W.kia_one PySem.W.kitx_dict I.kIn ⟨o, h1, h2.1⟩ e (fun z => nomatch z) h
  | @ins a C dx fs ea cl ha hn htk hm =>
    cases (show u = Value.ref a from rx)
    obtain ⟨mA, O, _⟩ := ins_get I.hok ea
    obtain ⟨od, J, _⟩ := O.look
    exact PySem.W.kia_one (PySem.W.kitx_own (cl.get _) cl.hd ha hn htk hm) I.kIn J e (fun z => nomatch z) h
end
end L2
namespace L2
open PySem PySem.Spec PyProof.Rows
structure Room (k : Nat) (A : Around) : Prop where
  hd : A.handled = none
  dp : A.depth + 3 * k + 5 < recursionLimit
  un : A.units + 16 * k + 200 < cLine
theorem Room.mono {j k : Nat} {A : Around} (r : Room k A) (h : j ≤ k) : Room j A := ⟨r.hd, by have := r.dp; omega, by have := r.un; omega⟩
theorem Room.deeper {k : Nat} {A : Around} (r : Room (k + 1) A) (env : Env) : Room k (A.deeper env) :=
  ⟨r.hd, by have := r.dp; show A.depth + 1 + 3 * k + 5 < _; omega, by have := r.un; show A.units + 3 + 16 * k + 200 < _; omega⟩
theorem Room.in1 {k : Nat} {A : Around} (r : Room (k + 1) A) : Room k A.in1 :=
  ⟨r.hd, by have := r.dp; show A.depth + 3 * k + 5 < _; omega, by have := r.un; show A.units + 1 + 16 * k + 200 < _; omega⟩
theorem Room.depth {k : Nat} {A : Around} (r : Room k A) : A.depth < recursionLimit := by have := r.dp; omega
theorem Room.units {k : Nat} {A : Around} (r : Room k A) : A.units + 64 < cLine := by have := r.un; omega
theorem Room.units0 {k : Nat} {A : Around} (r : Room k A) : A.units < cLine := by have := r.un; omega
def tNil : TA := fun _ H Q => Q [] H
def tCons (ta : TE) (tr : TA) : TA := fun σ H Q => ta σ H fun x H1 => tr σ H1 fun xs H2 => Q (x :: xs) H2
section
variable {X : Cx} {e : Expr} {es : List Expr} {te : TE} {t : TA} {pos : Pos}
theorem pa_nil : PA X [] tNil := fun _ _ _ _ H Q I h => Calls.spliced_nil ⟨[], H, I, .nil, h⟩
theorem pa_cons (ha : PE X e te) (hr : PA X es t) (hs : starEach (e :: es) X.env = (false, eval e X.env) :: starEach es X.env := by rfl) : PA X (e :: es) (tCons te t) := by
  intro pos pins s σ H Q I h
  rw [hs]
  show wpAny _ _ (spliced ((false, eval e X.env) :: backTo pos (starEach es X.env))) _ _ s
  refine Calls.spliced_cons (thn (ha pins s σ H _ I h) fun u s1 ⟨x, H1, I1, r1, q1⟩ => ?_)
  exact thn (hr pos pins s1 σ H1 _ I1 q1) fun us s2 ⟨xs, H2, I2, r2, q2⟩ => ⟨x :: xs, H2, I2, .cons r1 r2, q2⟩
def tTup (t : TA) : TE := fun σ H Q => t σ H fun xs H1 => xs.length ≤ sizeLine ∧ ∀ p, H1 p = none → Q (.ref p) (upd H1 p (.tup xs))
def tLst (t : TA) : TE := fun σ H Q => t σ H fun xs H1 => xs.length ≤ sizeLine ∧ ∀ p, H1 p = none → Q (.ref p) (upd H1 p (.lst xs))
theorem pe_tup {x1} (h : PA X es t) : PE X (.Tuple es x1 pos) (tTup t) := by
  intro pins s σ H Q I hq
  refine wpAny_Tuple_spliced (thn (h pos pins s σ H _ I hq) fun us s1 ⟨xs, H1, I1, r, z, q⟩ => ⟨by rw [← r.length]; exact z, ?_⟩)
  have hf : H1 s1.heap.objs.size = none := I1.hok.fresh (Nat.le_refl _)
  refine ⟨.ref s1.heap.objs.size, upd H1 s1.heap.objs.size (.tup xs), I1.laid (t' := s1.toks) (fun b u e => Heap.get?_push_of_some _ e) (Nat.le_refl _) ?_, rfl, q _ hf⟩
  exact ⟨z, us, r, ⟨_, Heap.get?_push_size _ rfl, rfl, _, rfl⟩⟩
theorem pe_lst (h : PA X es t) : PE X (.List es pos) (tLst t) := by
  intro pins s σ H Q I hq
  refine wpAny_List_spliced (thn (h pos pins s σ H _ I hq) fun us s1 ⟨xs, H1, I1, r, z, q⟩ => ⟨by rw [← r.length]; exact z, ?_⟩)
  have hf : H1 s1.heap.objs.size = none := I1.hok.fresh (Nat.le_refl _)
  refine ⟨.ref s1.heap.objs.size, upd H1 s1.heap.objs.size (.lst xs), I1.laid (t' := s1.toks) (fun b u e => Heap.get?_push_of_some _ e) (Nat.le_refl _) ?_, rfl, q _ hf⟩
  exact ⟨z, us, 0, r, Heap.get?_push_size _ rfl⟩
end
abbrev Sp := List V → Hp → VK → XK → Prop
abbrev CXT := List Env → Hp → Shared → XK → Value → Shared → Prop
structure Env0 (P : Program) (w : World) (K : PySem.W.Frag) (mg : Str → Option Value) (base : Heap) (A : Around) (outer : List Env) (s : Shared) (H : Hp) : Prop where
  frames : A.frames = some outer
  mod : Mod K mg base
  bs : ∀ b o, base.get? b = some o → s.heap.get? b = some o ∧ H b = none
  bsz : base.objs.size ≤ s.heap.objs.size
  funs : s.heap.FunFrames base outer
  frf : ∀ b ∈ frs outer, H b = none
  hok : HOk P w H s.heap
  bare : AllBare s.gens
def CE (outer : List Env) (P : Program) (w : World) (H : Hp) (s : Shared) (Q : VK) (u : Value) (s' : Shared) : Prop :=
  ∃ v H', s'.os = s.os ∧ AllBare s'.gens ∧ Un (frs outer) [] H H' s.heap s'.heap ∧ HOk P w H' s'.heap ∧ RelV v u ∧ Q v H'
def CR (CX : CXT) (outer : List Env) (P : Program) (w : World) (H : Hp) (s : Shared) (Q : VK) (E : XK) (r : Result) (s' : Shared) : Prop :=
  match r with
  | .ok (.ret u) => CE outer P w H s Q u s'
  | .ok _ => False
  | .error e => CX outer H s E e s'
structure FnOk (P : Program) (w : World) (K : PySem.W.Frag) (mg : Str → Option Value) (base : Heap) (CX : CXT) (k : Nat) (f : Addr) (fd : FuncData) (ps : List Str) (sp : Sp) : Prop where
  len : ∀ vs H Q E, sp vs H Q E → vs.length = ps.length
  run : ∀ (A : Around) (outer : List Env) (s : Shared) (H : Hp) (args : Args) (us : List Value) (vs : List V) (Q : VK) (E : XK), Room k A → Env0 P w K mg base A outer s H → BindsTo s fd args (ps.zip us) → Vals vs us → sp vs H Q E →
    codeAny (model P w) A (.call (.ref f) args) (CR CX outer P w H s Q E) s
theorem FnOk.mono {P : Program} {w : World} {K : PySem.W.Frag} {mg : Str → Option Value} {base : Heap} {CX : CXT} {j k : Nat} {f : Addr} {fd : FuncData} {ps : List Str} {sp : Sp} (F : FnOk P w K mg base CX j f fd ps sp) (h : j ≤ k) :
    FnOk P w K mg base CX k f fd ps sp := ⟨F.len, fun A outer s H args us vs Q E hr => F.run A outer s H args us vs Q E (hr.mono h)⟩
theorem Env0.in1 {P : Program} {w : World} {K : PySem.W.Frag} {mg : Str → Option Value} {base : Heap} {A : Around} {outer : List Env} {s : Shared} {H : Hp} (e : Env0 P w K mg base A outer s H) :
    Env0 P w K mg base A.in1 outer s H := ⟨e.frames, e.mod, e.bs, e.bsz, e.funs, e.frf, e.hok, e.bare⟩
section
variable {X : Cx} {pins : List (Addr × Obj)} {σ : St} {H : Hp} {s s' : Shared}
theorem Inv.env0 (I : Inv X pins σ H s) : Env0 X.prog X.w X.K X.mg X.base X.A X.stack s H :=
  ⟨I.ok.frames, I.ok.mod, I.bs, Nat.le_trans I.ok.bsz I.sz, I.stack, I.stkFree, I.hok, I.bare⟩
theorem Inv.after {Q : VK} {u : Value} (I : Inv X pins σ H s) (h : CE X.stack X.prog X.w H s Q u s') : EP X pins σ Q u s' := by
  obtain ⟨v, H', os, bare, un, hok, r, q⟩ := h
  obtain ⟨hh, g, d, t, os'⟩ := s'
  obtain rfl : os' = s.os := os
  exact ⟨v, H', I.call (h' := hh) (g' := g) (d' := d) (t' := t) (ch := []) un hok bare (fun b z => absurd z (by simp)), r, q⟩
end
def tCall (sp : Sp) (dvs : List V) (E : XK) (t : TA) : TE := fun σ H Q => t σ H fun vs H1 => sp (vs ++ dvs) H1 Q E
def Binds (K : PySem.W.Frag) (fd : FuncData) (ps : List Str) (ds : List Value) : Prop :=
  ∀ (s : Shared) (us : List Value), K.In s.heap → (us ++ ds).length = ps.length → BindsTo s fd ⟨us, []⟩ (ps.zip (us ++ ds))
theorem Binds.all {K : PySem.W.Frag} {fd : FuncData} {ps : List Str} (h : ∀ us : List Value, us.length = ps.length → bindArgs fd ⟨us, []⟩ = pure (ps.zip us)) : Binds K fd ps [] := fun s us _ hl => by
  rw [List.append_nil] at hl ⊢
  exact .of_eq (h us hl)
def Passes (CX : CXT) (X : Cx) (E : XK) : Prop := ∀ (pins : List (Addr × Obj)) (σ : St) (H : Hp) (s : Shared) (e : Value) (s' : Shared), Inv X pins σ H s → CX X.stack H s E e s' → X.xe e s'
section
variable {X : Cx} {CX : CXT} {k : Nat} {f C : Addr} {fd : FuncData} {ps : List Str} {sp : Sp} {dvs : List V} {ds : List Value} {E : XK} {x m : Str} {p pos apos : Pos} {e o : Expr} {es : List Expr} {ta : TE} {t : TA}
theorem run_fn {pins : List (Addr × Obj)} {σ : St} {H : Hp} {s : Shared} {Q : VK} {us : List Value} {vs : List V} (F : FnOk X.prog X.w X.K X.mg X.base CX k f fd ps sp) (hr : Room k X.A) (hb : Binds X.K fd ps ds) (hd : Vals dvs ds) (hx : Passes CX X E)
    (I : Inv X pins σ H s) (r : Vals vs us) (h : sp (vs ++ dvs) H Q E) : wpAny (model X.prog X.w) X.A (call (.ref f) us) (EP X pins σ Q) X.xe s := by
  have r2 : Vals (vs ++ dvs) (us ++ ds) := r.append hd
  have hl : (us ++ ds).length = ps.length := by rw [← r2.length]; exact F.len _ _ _ _ h
  refine wpAny_call (codeAny_mono (F.run X.A X.stack s H ⟨us, []⟩ (us ++ ds) (vs ++ dvs) Q E hr I.env0 (hb s us I.kIn hl) r2 h) fun r s' hq => ?_)
  cases r with
  | error e => exact hx pins σ H s e s' I hq
  | ok fl =>
    cases fl with
    | ret u => exact I.after hq
    | next => exact False.elim hq
    | brk => exact False.elim hq
    | cont => exact False.elim hq
theorem pe_call (F : FnOk X.prog X.w X.K X.mg X.base CX k f fd ps sp) (hr : Room k X.A) (hg : Gl X x) (hm : X.mg x = some (.ref f)) (hk : PySem.W.keepIn X.K (.ref f) = true) (hb : Binds X.K fd ps ds) (hd : Vals dvs ds) (hx : Passes CX X E)
    (ha : PA X (e :: es) t) (hdb : (x == ("__debug__" : Str)) = false := by decide) (he : starEach (e :: es) X.env = (false, eval e X.env) :: starEach es X.env := by rfl) (hpl : (backTo pos (starEach es X.env)).any (·.1) = false := by rfl) :
    PE X (.Call (.Name x p) (e :: es) [] pos) (tCall sp dvs E t) := by
  intro pins s σ H Q I h
  refine wpAny_Call_Name_kw (ld_glob I hg hm ?_ hdb)
  refine PySem.W.callWith_K (h₀ := X.base) I.ok.mod.kin hk (thn (ha pos pins s σ H _ I h) fun us s1 ⟨vs, H1, I1, r, q⟩ => ⟨I1.kIn, ?_⟩) he hpl
  exact run_fn F hr hb hd hx I1 r q
structure Mk (K : PySem.W.Frag) (C f : Addr) : Prop where
  makes : PySem.W.makesIn K C = true
  init : PySem.W.findIn K (.ref C) "__init__" = some (some (.ref f))
  fn : PySem.W.isFn K (.ref f) = true
  kp : PySem.W.keepIn K (.ref C) = true
end
section
variable {X : Cx} {CX : CXT} {k : Nat} {f C : Addr} {fd : FuncData} {ps ks : List Str} {sp : Sp} {E : XK} {x m : Str} {p pos apos kpos : Pos} {e o : Expr} {es : List Expr} {kws : List Keyword} {te ta : TE} {t tk : TA} {nm : Option Str}
structure KBinds (K : PySem.W.Frag) (fd : FuncData) (ps ks : List Str) (g : List Value → List Value → List Value) (gV : List V → List V → List V) : Prop where
  to : ∀ (s : Shared) (us ws : List Value), K.In s.heap → (g us ws).length = ps.length → BindsTo s fd ⟨us, ks.zip ws⟩ (ps.zip (g us ws))
  rel : ∀ {vs : List V} {us : List Value} {zs : List V} {ws : List Value}, Vals vs us → Vals zs ws → Vals (gV vs zs) (g us ws)
variable {g : List Value → List Value → List Value} {gV : List V → List V → List V}
end
structure FnScope (N P : List Str) (sc : Scope) : Prop where
  kind : sc.kind = .function
  co : sc.isCoroutine = false
  gen : sc.isGenerator = false
  nd : N.Nodup
  pre : N.take P.length = P
  par : ∀ x ∈ P, sc.names.lookup x = some .local ∨ sc.names.lookup x = some .cell
  nofree : ∀ y ∈ sc.names, y.2 ≠ .free
theorem bindL_out {kindOf : Str → Option NameKind} {x : Str} : ∀ {binds : List (Str × Value)} {m : Str → Option Value}, (∀ v, (x, v) ∉ binds) → bindL kindOf binds m x = m x
  | [], _, _ => rfl
  | (n, v) :: r, m, h => by
    unfold bindL
    rw [bindL_out fun w hw => h w (List.mem_cons_of_mem _ hw)]
    split
    · have : x ≠ n := by rintro rfl; exact h v List.mem_cons_self
      simp [this]
    · rfl
theorem bindC_out {kindOf : Str → Option NameKind} {x : Str} : ∀ {binds : List (Str × Value)} {m : Str → Option Value}, (∀ v, (x, v) ∉ binds) → bindC kindOf binds m x = m x
  | [], _, _ => rfl
  | (n, v) :: r, m, h => by
    unfold bindC
    rw [bindC_out fun w hw => h w (List.mem_cons_of_mem _ hw)]
    split
    · rfl
    · have : x ≠ n := by rintro rfl; exact h v List.mem_cons_self
      simp [this]
theorem bindL_get {kindOf : Str → Option NameKind} {x : Str} {v : Value} : ∀ {P : List Str} {vs : List Value} {i : Nat} {m : Str → Option Value}, P.Nodup → P[i]? = some x → vs[i]? = some v → kindOf x = some .local →
    bindL kindOf (P.zip vs) m x = some v
  | [], _, _, _, _, h, _, _ => by simp at h
  | _ :: _, [], _, _, _, _, h, _ => by simp at h
  | p :: P, w :: vs, 0, m, nd, h1, h2, hk => by
    simp at h1 h2; subst h1; subst h2
    show bindL kindOf ((p, w) :: P.zip vs) m p = _
    unfold bindL
    rw [bindL_out fun v hv => (List.nodup_cons.mp nd).1 (List.of_mem_zip hv).1, if_pos hk]
    simp
  | p :: P, w :: vs, i + 1, m, nd, h1, h2, hk => by
    show bindL kindOf ((p, w) :: P.zip vs) m x = _
    unfold bindL
    exact bindL_get (i := i) (List.nodup_cons.mp nd).2 (by simpa using h1) (by simpa using h2) hk
theorem bindC_get {kindOf : Str → Option NameKind} {x : Str} {v : Value} : ∀ {P : List Str} {vs : List Value} {i : Nat} {m : Str → Option Value}, P.Nodup → P[i]? = some x → vs[i]? = some v → kindOf x ≠ some .local →
    bindC kindOf (P.zip vs) m x = some v
  | [], _, _, _, _, h, _, _ => by simp at h
  | _ :: _, [], _, _, _, _, h, _ => by simp at h
  | p :: P, w :: vs, 0, m, nd, h1, h2, hk => by
    simp at h1 h2; subst h1; subst h2
    show bindC kindOf ((p, w) :: P.zip vs) m p = _
    unfold bindC
    rw [bindC_out fun v hv => (List.nodup_cons.mp nd).1 (List.of_mem_zip hv).1, if_neg hk]
    simp
  | p :: P, w :: vs, i + 1, m, nd, h1, h2, hk => by
    show bindC kindOf ((p, w) :: P.zip vs) m x = _
    unfold bindC
    exact bindC_get (i := i) (List.nodup_cons.mp nd).2 (by simpa using h1) (by simpa using h2) hk
def start (N : List Str) (vs : List V) : St := vs.map some ++ List.replicate (N.length - vs.length) none
def cxOf (CX : CXT) (P : Program) (w : World) (K : PySem.W.Frag) (mg : Str → Option Value) (base : Heap) (N : List Str) (qual : Str) (scope : Scope) (f : Addr) (cd : Value) (A : Around) (outer : List Env) (s : Shared) (H : Hp) (E : XK) : Cx where
  prog := P
  w := w
  K := K
  mg := mg
  base := base
  A := A.deeper (envOfC qual scope s.heap.objs.size f cd)
  N := N
  s₀ := s
  H₀ := H
  env := envOfC qual scope s.heap.objs.size f cd
  outer := outer
  stack := envOfC qual scope s.heap.objs.size f cd :: outer
  ex := []
  calm := true
  fn := fun _ => true
  pn := []
  xe := fun e s' => wpAny (model P w) (A.deeper (envOfC qual scope s.heap.objs.size f cd)) (leaving (envOfC qual scope s.heap.objs.size f cd) e) (fun _ s'' => CX outer H s E e s'') (fun e' s'' => CX outer H s E e' s'') s'
theorem cell_has {sc : Scope} {n : Nat} {x : Str} (h : sc.names.lookup x = some .cell) : ∃ c, (cellsFrom n sc.names []).lookup x = some c := by
  have q := PySem.W.cellsFrom_some sc.names n [] (.inl h)
  exact Option.isSome_iff_exists.mp q
theorem inv_start {CX : CXT} {P : Program} {w : World} {K : PySem.W.Frag} {mg : Str → Option Value} {base : Heap} {N ps : List Str} {qual : Str} {scope : Scope} {f : Addr} {cd : Value} {A : Around} {outer : List Env} {s s1 : Shared} {H : Hp} {E : XK} {us : List Value} {vs : List V}
    (S : FnScope N ps scope) (hd : A.handled = none) (e0 : Env0 P w K mg base A outer s H) (hl : vs.length = ps.length) (r : Vals vs us)
    (x : InCallC s s.heap.objs.size (bindL (envOfC qual scope s.heap.objs.size f cd).kindOf (ps.zip us) fun _ => none) (cellsFrom (s.heap.objs.size + 1) scope.names []) (bindC (envOfC qual scope s.heap.objs.size f cd).kindOf (ps.zip us) fun _ => none) s1) :
    Inv (cxOf CX P w K mg base N qual scope f cd A outer s H E) [] (start N vs) H s1 := by
  have hpl : ps.length ≤ N.length := by have := congrArg List.length S.pre; rw [List.length_take] at this; omega
  obtain ⟨h1, tk, rfl, hk⟩ := x.done
  have noA : ∀ b : Addr, b ∉ (cxOf CX P w K mg base N qual scope f cd A outer s H E).ex := fun b z => absurd (show b ∈ ([] : List Addr) from z) (by simp)
  refine ⟨⟨e0.mod, S.kind, rfl, rfl, Nat.le_refl _, fun y z c h1 h2 => ?_, fun y hy => ?_, fun y c _ h => ?_, fun _ => hd, Around.frames_deeper e0.frames, .inr ⟨rfl, rfl⟩, fun b z => absurd z (noA b), e0.bs, e0.bsz, fun b _ _ => noA b, fun b z => absurd z (noA b), e0.funs, e0.frf⟩,
    rfl, e0.bare, Un.kept hk, ⟨_, x.toInCall.ns, fun i y v h1 h2 h3 => ?_⟩, fun y c h => ⟨_, x.cell y c h⟩, e0.hok.fresh (Nat.le_refl _), fun y c h => ?_, fun p hp => absurd (show p ∈ ([] : List (Addr × Obj)) from hp) (by simp), e0.hok.kept hk, ?_⟩
  · exact name_of_addr x.apart (PySem.mem_of_lookup h1) (PySem.mem_of_lookup h2)
  · have hy : scope.names.lookup y = some .cell ∨ scope.names.lookup y = some .free := hy
    rcases hy with hy | hy
    · exact cell_has hy
    · exact absurd rfl (S.nofree _ (PySem.mem_of_lookup hy))
  · exact Nat.le_of_lt (x.above y c (PySem.mem_of_lookup h))
  · have hi : i < vs.length := by
      unfold start at h2
      by_cases hi : i < vs.length
      · exact hi
      · rw [List.getElem?_append_right (by simpa using hi)] at h2
        rw [List.getElem?_replicate] at h2
        split at h2 <;> cases h2
    have ha : vs[i]? = some v := by
      unfold start at h2
      rw [List.getElem?_append_left (by simpa using hi), List.getElem?_map] at h2
      cases e : vs[i]? with
      | none => rw [e] at h2; cases h2
      | some a => rw [e] at h2; cases h2; rfl
    obtain ⟨u, hu, rv⟩ := r.get ha
    have hp : ps[i]? = some y := by
      rw [← S.pre, List.getElem?_take_of_lt (by omega)]; exact h1
    have ndP : ps.Nodup := by rw [← S.pre]; exact S.nd.sublist (List.take_sublist _ _)
    refine ⟨u, rv, ?_⟩
    rcases S.par y (List.mem_of_getElem? hp) with k | k
    · exact .inl ⟨k, bindL_get ndP hp hu k⟩
    · obtain ⟨c, e⟩ := cell_has (n := s.heap.objs.size + 1) k
      refine .inr ⟨.inl k, c, e, ?_⟩
      have q := x.cell y c e
      rw [bindC_get ndP hp hu (by show scope.names.lookup y ≠ _; rw [k]; decide)] at q
      exact q
  · exact e0.hok.fresh (Nat.le_of_lt (x.above y c (PySem.mem_of_lookup h)))
  · unfold start
    show _ = N.length
    rw [List.length_append, List.length_map, List.length_replicate]
    omega
theorem fn_of {CX : CXT} {P : Program} {w : World} {K : PySem.W.Frag} {mg : Str → Option Value} {base : Heap} {k : Nat} {f : Addr} {name qual : Str} {params : Arguments} {body : List Stmt} {scope : Scope} {dV kV doc pm cdv ct oc : Value} {an od : Option Addr}
    {osl : Array (Option Value)} {N ps : List Str} {sp : Sp} (lk : K.lookup f = some ⟨oc, od, .func (PySem.W.fnOf name qual params body scope dV kV doc pm an cdv ct), osl⟩) (hcd : PySem.W.codeIn K cdv qual = true) (S : FnScope N ps scope)
    (len : ∀ vs H Q E, sp vs H Q E → vs.length = ps.length)
    (hbody : ∀ (A : Around) (outer : List Env) (s : Shared) (H : Hp) (vs : List V) (Q : VK) (E : XK), Room k (A.deeper (envOfC qual scope s.heap.objs.size f cdv)) → sp vs H Q E →
      ∃ t, PSs (cxOf CX P w K mg base N qual scope f cdv A outer s H E) body t ∧ t { nx := fun _ H' => Q .non H', rt := Q } (start N vs) H) :
    FnOk P w K mg base CX (k + 1) f (PySem.W.fnOf name qual params body scope dV kV doc pm an cdv ct) ps sp := by
  refine ⟨len, fun A outer s H args us vs Q E hr e0 hb r hsp => ?_⟩
  have hl := len _ _ _ _ hsp
  have KX : K.In s.heap := e0.mod.kin.keeps fun b o e => (e0.bs b o e).1
  have lim : s.heap.NoLimit := e0.mod.nolimit.keeps fun b o e => (e0.bs b o e).1
  have hkind : ∀ y ∈ ps.zip us, scope.names.lookup y.1 = some .local ∨ (scope.names.lookup y.1 = some .cell ∧ ((cellsFrom (s.heap.objs.size + 1) scope.names []).lookup y.1).isSome = true) := fun ⟨n, v⟩ hy => by
    rcases S.par n (List.of_mem_zip hy).1 with q | q
    · exact .inl q
    · exact .inr ⟨q, PySem.W.cellsFrom_some _ _ _ (.inl q)⟩
  refine codeAny_call_function hr.depth (KX _ _ lk) rfl S.co S.gen rfl (PySem.W.codeRec_of KX hcd) (hb _ _ _ _ ?_)
  refine wpAny_newFunctionEnv_cells S.kind hkind fun env he s1 x => ?_
  subst he
  refine ⟨lim.keeps x.toInCall.keep, codeAny_func ?_⟩
  obtain ⟨t, ht, hq⟩ := hbody A outer s H vs Q E (hr.deeper _) hsp
  have I : Inv (cxOf CX P w K mg base N qual scope f cdv A outer s H E) [] (start N vs) H s1 := inv_start S hr.hd e0 hl r x
  refine wpAny_mono (ht [] s1 (start N vs) H _ I hq) (fun fl s' hs => ?_) fun e s' hs => hs
  have fin : ∀ {σ' : St} {H' : Hp} {v : V} {u : Value}, Inv (cxOf CX P w K mg base N qual scope f cdv A outer s H E) [] σ' H' s' → RelV v u → Q v H' → CE outer P w H s Q u s' :=
    fun {σ' H' v u} J rv q => ⟨v, H', J.os, J.bare, J.base, J.hok, rv, q⟩
  cases fl with
  | ret u =>
    obtain ⟨v, σ', H', J, rv, q⟩ := hs
    exact fin J rv q
  | next =>
    obtain ⟨σ', H', J, q⟩ := hs
    exact fin (v := V.non) (u := Value.none) J rfl q
  | brk =>
    obtain ⟨_, _, _, q⟩ := hs
    exact False.elim q
  | cont =>
    obtain ⟨_, _, _, q⟩ := hs
    exact False.elim q
end L2
namespace L2
open PySem PySem.Spec PyProof.Rows
section
variable {X : Cx} {x : Str} {p pos : Pos} {e : Expr} {es : List Expr} {t : TA} {id T : String} {r : List V → Hp → VK → Prop}
def tCB (r : List V → Hp → VK → Prop) (t : TA) : TE := fun σ H Q => t σ H fun vs H1 => r vs H1 Q
theorem pe_callB (hc : CallR X (.builtin id) r) (hg : Gl X x) (hm : X.mg x = none) (hv : bootBuiltins x = some (.builtin id)) (ha : PA X (e :: es) t) (hn : x ≠ "__name__" := by decide) (hdb : (x == ("__debug__" : Str)) = false := by decide)
    (he : starEach (e :: es) X.env = (false, eval e X.env) :: starEach es X.env := by rfl) (hpl : (backTo pos (starEach es X.env)).any (·.1) = false := by rfl) : PE X (.Call (.Name x p) (e :: es) [] pos) (tCB r t) := by
  intro pins s σ H Q I h
  refine wpAny_Call_Name_kw (ld_blt I hg hm hv ?_ hn hdb)
  exact PyProof.Rows.callWith_builtin1 (thn (ha pos pins s σ H _ I h) fun us s1 ⟨vs, H1, I1, r1, q1⟩ => hc pins s1 σ H1 vs us Q I1 r1 q1) he hpl
theorem pe_callTy (hc : CallR X (.type T) r) (hg : Gl X x) (hm : X.mg x = none) (hv : bootBuiltins x = some (.type T)) (ha : PA X (e :: es) t) (hn : x ≠ "__name__" := by decide) (hdb : (x == ("__debug__" : Str)) = false := by decide)
    (he : starEach (e :: es) X.env = (false, eval e X.env) :: starEach es X.env := by rfl) (hpl : (backTo pos (starEach es X.env)).any (·.1) = false := by rfl) : PE X (.Call (.Name x p) (e :: es) [] pos) (tCB r t) := by
  intro pins s σ H Q I h
  refine wpAny_Call_Name_kw (ld_blt I hg hm hv ?_ hn hdb)
  exact PyProof.Rows.callWith_type1 (thn (ha pos pins s σ H _ I h) fun us s1 ⟨vs, H1, I1, r1, q1⟩ => hc pins s1 σ H1 vs us Q I1 r1 q1) he hpl
end
end L2
namespace HT
open PySem PyProof.Rows
section
open PySem.SeqAt
open PySem.AutoSeq1 (wpAny_loadPart')
open PySem.MeetsSeq PySem.MeetsSeq2 PySem.MeetsSeq3
end
section
variable {prog : Program} {w : World} {A : Around} {E : Value → Shared → Prop} {s : Shared}
theorem cat_tup {t b : Addr} {vs ws : List Value} {Q : Value → Shared → Prop} (ht : IsTup s.heap t vs.toArray) (hb : IsTup s.heap b ws.toArray) (hv : vs ≠ [])
    (h1 : ws = [] → Q (.ref t) s) (h2 : ws ≠ [] → Q (.ref s.heap.objs.size) { s with heap := s.heap.push { cls := .type "tuple", data := .seq (vs ++ ws).toArray } })
    (hsz : vs.length + ws.length ≤ sizeLine) : wpAny (model prog w) A (binaryOp .Add (.ref t) (.ref b)) Q E s := by
  obtain ⟨⟨cls, dd, data, sl⟩, ho, hc, n, hd⟩ := id ht
  obtain ⟨⟨cls2, dd2, data2, sl2⟩, ho2, hc2, n2, hd2⟩ := id hb
  simp only at hc hd hc2 hd2
  subst hc hd hc2 hd2
  have e : vs.toArray ++ ws.toArray = (vs ++ ws).toArray := by simp
  by_cases hw : ws = []
  · exact concat_meets ⟨_, ho, rfl⟩ ⟨_, ho2, rfl⟩ noFill_tuple_add seq_tuple_add PySem.F.slot_tuple_add PySem.F.entry_tuple_add (PySem.F.args_tuple_add_2 _ _)
      (tuple_addW1 t b vs.toArray ws.toArray n n2 dd dd2 sl sl2 (by simpa using hv) (by simp [hw])) ⟨ho, ho2, h1 hw⟩
  · refine concat_meets ⟨_, ho, rfl⟩ ⟨_, ho2, rfl⟩ noFill_tuple_add seq_tuple_add PySem.F.slot_tuple_add PySem.F.entry_tuple_add (PySem.F.args_tuple_add_2 _ _)
      (tuple_addW2 t b vs.toArray ws.toArray n n2 dd dd2 sl sl2 (by simpa using hv) (by simpa using hw) (by rw [List.size_toArray, List.size_toArray]; exact hsz)) ⟨ho, ho2, ?_⟩
    rw [e]
    exact h2 hw
def sIx (n d : Nat) : Option Int → Nat
  | none => d
  | some v => if v < 0 then (v + (n : Int)).toNat else min v.toNat n
theorem sIx_none (n d : Nat) : sIx n d none = d := rfl
theorem sIx_nat (n d k : Nat) : sIx n d (some (k : Int)) = min k n := by
  show (if (k : Int) < 0 then ((k : Int) + (n : Int)).toNat else min (k : Int).toNat n) = min k n
  rw [if_neg (by omega), Int.toNat_natCast]
theorem sIx_le (n d : Nat) (hd : d ≤ n) (o : Option Int) : sIx n d o ≤ n := by
  cases o with
  | none => exact hd
  | some v =>
    show (if v < 0 then (v + (n : Int)).toNat else min v.toNat n) ≤ n
    by_cases hv : v < 0
    · rw [if_pos hv]; omega
    · rw [if_neg hv]; exact Nat.min_le_right _ _
theorem clip_eq (v : Int) (n d : Nat) : (if v < 0 then max (v + (n : Int)) 0 else min v (n : Int)) = ((sIx n d (some v) : Nat) : Int) := by
  show (if v < 0 then max (v + (n : Int)) 0 else min v (n : Int)) = (((if v < 0 then (v + (n : Int)).toNat else min v.toNat n) : Nat) : Int)
  by_cases hv : v < 0
  · simp only [if_pos hv]; omega
  · simp only [if_neg hv]; omega
theorem adjust_gen (lo hi : Option Int) (n : Nat) : Builtin.Slice.sliceAdjust lo hi 1 (n : Int) = (((sIx n 0 lo : Nat) : Int), ((sIx n n hi : Nat) : Int)) := by
  have h1 : ¬ ((1 : Int) < 0) := by omega
  unfold Builtin.Slice.sliceAdjust
  simp only [h1, if_false]
  refine Prod.ext ?_ ?_
  · cases lo with
    | none => rfl
    | some v => exact clip_eq v n 0
  · cases hi with
    | none => rfl
    | some v => exact clip_eq v n n
theorem places_gen (i j : Nat) : Builtin.Slice.slicePlaces (i : Int) (j : Int) 1 = j - i := by
  unfold Builtin.Slice.slicePlaces
  have h1 : (1 : Int) > 0 := by omega
  simp only [h1, if_true, Int.ediv_one]
  split <;> omega
theorem slicePart_ {v : Value} {o : Option Int} {Q : Option Int → Shared → Prop} (p : IsPart v o) (h : Q o s) : wpAny (model prog w) A (Builtin.Slice.slicePartIndex v) Q E s := by
  cases p with
  | none => exact slicePart_none h
  | int i t => exact slicePart_int h
theorem sliceApplied_gen {sl : Addr} {vl vu : Value} {lo hi : Option Int} {n : Nat} {Q : Int × Int × Nat → Shared → Prop} (hs : s.heap.IsSliceOf sl vl vu .none) (pl : IsPart vl lo) (pu : IsPart vu hi)
    (h : Q (((sIx n 0 lo : Nat) : Int), 1, sIx n n hi - sIx n 0 lo) s) : wpAny (model prog w) A (Builtin.Slice.sliceApplied (.ref sl) (pure (n : Int))) Q E s := by
  obtain ⟨os, hos, hcs, hds⟩ := id hs
  unfold Builtin.Slice.sliceApplied Builtin.Slice.sliceFields
  refine wpAny_bind (wpAny_bind (wpAny_field hos hds (x := vl) rfl (wpAny_bind (wpAny_field hos hds (x := vu) rfl (wpAny_bind (wpAny_field hos hds (x := .none) rfl (wpAny_pure ?_)))))))
  refine wpAny_bind (slicePart_none ?_)
  show wpAny _ _ (if ((1 : Int) == 0) = true then _ else _) _ _ s
  rw [if_neg (by decide)]
  refine wpAny_bind (slicePart_ pl (wpAny_bind (slicePart_ pu (wpAny_bind (wpAny_pure ?_)))))
  show wpAny _ _ (match Builtin.Slice.sliceAdjust lo hi 1 (n : Int) with | (lo, hi) => pure (lo, (1 : Int), Builtin.Slice.slicePlaces lo hi 1)) _ _ s
  rw [adjust_gen lo hi n]
  show wpAny _ _ (pure (((sIx n 0 lo : Nat) : Int), (1 : Int), Builtin.Slice.slicePlaces ((sIx n 0 lo : Nat) : Int) ((sIx n n hi : Nat) : Int) 1)) _ _ s
  rw [places_gen]
  exact wpAny_pure h
theorem pick_gen (xs : Array Value) (i k : Nat) : ((List.range k).filterMap fun (m : Nat) => xs[((i : Int) + (m : Int) * 1).toNat]?).toArray = ((xs.toList.drop i).take k).toArray := by
  have e : (fun (m : Nat) => xs[((i : Int) + (m : Int) * 1).toNat]?) = fun m => xs[i + m]? := by
    funext m
    have : ((i : Int) + (m : Int) * 1).toNat = i + m := by omega
    rw [this]
  rw [e]
  have := pick_run xs i k
  rw [List.filterMap_map] at this
  have e2 : ((fun x => xs[x]?) ∘ fun x => i + x) = fun m => xs[i + m]? := rfl
  rw [e2] at this
  rw [this]
theorem getItem_tuple_cut {t sl : Addr} {items : Array Value} {vl vu : Value} {lo hi : Option Int} {Q : Value → Shared → Prop} (ht : IsTup s.heap t items) (hs : s.heap.IsSliceOf sl vl vu .none) (pl : IsPart vl lo) (pu : IsPart vu hi)
    (hw : ¬ (sIx items.size 0 lo = 0 ∧ sIx items.size items.size hi = items.size))
    (h : Q (.ref s.heap.objs.size) { s with heap := s.heap.push { cls := .type "tuple", data := .seq ((items.toList.drop (sIx items.size 0 lo)).take (sIx items.size items.size hi - sIx items.size 0 lo)).toArray } })
    (hsz : items.size ≤ sizeLine) : wpAny (model prog w) A (getItem (.ref t) (.ref sl)) Q E s := by
  have htake : sizeOk (.seq ((items.toList.drop (sIx items.size 0 lo)).take (sIx items.size items.size hi - sIx items.size 0 lo)).toArray) := by
    show ((items.toList.drop (sIx items.size 0 lo)).take (sIx items.size items.size hi - sIx items.size 0 lo)).toArray.size ≤ sizeLine
    rw [List.size_toArray, List.length_take, List.length_drop, Array.length_toList]
    omega
  have hj : sIx items.size items.size hi ≤ items.size := sIx_le _ _ (Nat.le_refl _) hi
  obtain ⟨os, hos, hcs, hds⟩ := id hs
  have hTs : s.TypeIs (.ref sl) "slice" := ⟨os, hos, hcs⟩
  unfold getItem
  try with_reducible refine wpAny_holding ?_
  first | refine wpAny_bind (wpAny_pure ?_) | skip
  refine wpAny_bind (wpAny_sequenceKey ht.typeIs (by decide) ?_)
  refine wpAny_bind (wpAny_callSpecial?_slot (name := Str.ofString "__getitem__") ht.typeIs PyProof.Rows.slot_tuple_getitem
    (wpAny_call_entry PyProof.Rows.slot_tuple_getitem ht.typeIs entry_tuple_getitem ?_ (args_tuple_getitem _ _)))
  show wpAny _ _ (Builtin.Tuple.tupleItemsOf (.ref t) >>= _) _ _ s
  refine wpAny_bind (tupleItemsOf_ ht ?_)
  refine wpAny_bind (wpAny_typeOf hTs ?_)
  rw [if_pos (by decide)]
  refine wpAny_bind (sliceApplied_gen hs pl pu ?_)
  have hno : ¬ ((((sIx items.size 0 lo : Nat) : Int) == 0 && (1 : Int) == 1 && (sIx items.size items.size hi - sIx items.size 0 lo) == items.size) = true) := by
    intro q
    rw [Bool.and_eq_true, Bool.and_eq_true] at q
    have q1 : ((sIx items.size 0 lo : Nat) : Int) = 0 := eq_of_beq q.1.1
    have q2 : sIx items.size items.size hi - sIx items.size 0 lo = items.size := eq_of_beq q.2
    exact hw ⟨by omega, by omega⟩
  show wpAny _ _ (if (((sIx items.size 0 lo : Nat) : Int) == 0 && (1 : Int) == 1 && (sIx items.size items.size hi - sIx items.size 0 lo) == items.size) = true then _ else _) _ _ s
  rw [if_neg hno, pick_gen]
  first
    | exact wpAny_bind (m := Builtin.Tuple.tupleExact _) (wpAny_newObj_type (wpAny_pure ⟨_, rfl, wpAny_pure h⟩) htake)
    | exact wpAny_bind (m := Builtin.Tuple.tupleExact _) (wpAny_newObj_type (wpAny_bind (wpAny_pure (wpAny_pure ⟨_, rfl, wpAny_pure h⟩))) htake)
    | exact wpAny_bind (wpAny_bind (m := Builtin.Tuple.tupleExact _) (wpAny_newObj_type (wpAny_pure (wpAny_pure ⟨_, rfl, wpAny_pure h⟩)) htake))
    | exact wpAny_bind (wpAny_bind (m := Builtin.Tuple.tupleExact _) (wpAny_newObj_type (wpAny_pure ⟨_, rfl, wpAny_pure h⟩) htake))
end
end HT
namespace L2
open PySem PySem.Spec PyProof.Rows
abbrev TO := St → Hp → (Option Int → Hp → Prop) → Prop
def PO (X : Cx) (e : Option Expr) (t : TO) : Prop :=
  ∀ (pins : List (Addr × Obj)) (s : Shared) (σ : St) (H : Hp) (Q : Option Int → Hp → Prop), Inv X pins σ H s → t σ H Q →
    wpAny (model X.prog X.w) X.A (evalPart e X.env) (fun u s' => ∃ o H', Inv X pins σ H' s' ∧ IsPart u o ∧ Q o H') X.xe s
def tNoPart : TO := fun _ H Q => Q none H
def tPart (t : TE) : TO := fun σ H Q => t σ H fun x H1 => ∃ i, x = .int i ∧ Q (some i) H1
section
variable {X : Cx} {e : Expr} {te : TE} {lo hi : Option Expr} {tl th : TO} {pos p2 : Pos}
theorem po_none : PO X none tNoPart := by
  intro pins s σ H Q I h
  rw [evalPart_none]
  exact wpAny_pure ⟨none, H, I, .none, h⟩
theorem po_some (h : PE X e te) : PO X (some e) (tPart te) := by
  intro pins s σ H Q I hw
  rw [evalPart_some]
  refine thn (h pins s σ H _ I hw) fun u s1 ⟨x, H1, I1, r1, q1⟩ => ?_
  obtain ⟨i, rfl, q⟩ := q1
  obtain ⟨t, rfl⟩ := r1
  exact ⟨some i, H1, I1, .int i t, q⟩
def SlR (X : Cx) (r : V → Option Int → Option Int → Hp → VK → Prop) : Prop :=
  ∀ (pins : List (Addr × Obj)) (s : Shared) (σ : St) (H : Hp) (x : V) (v vl vu : Value) (lo hi : Option Int) (sl : Addr) (Q : VK), Inv X pins σ H s → RelV x v → s.heap.IsSliceOf sl vl vu .none → IsPart vl lo → IsPart vu hi → r x lo hi H Q →
    ∃ T id, typeLookup (.type T) "__getitem__" = pure (some (.builtin id)) ∧ s.TypeIs v T ∧ wpAny (model X.prog X.w) X.A (getItem v (.ref sl)) (EP X pins σ Q) X.xe s
def tSl (r : V → Option Int → Option Int → Hp → VK → Prop) (te : TE) (tl th : TO) : TE := fun σ H Q => te σ H fun x H1 => tl σ H1 fun l H2 => th σ H2 fun u H3 => r x l u H3 Q
theorem pe_slice {r : V → Option Int → Option Int → Hp → VK → Prop} (hr : SlR X r) (he : PE X e te) (hl : PO X lo tl) (hu : PO X hi th) : PE X (.Subscript e (.Slice lo hi none p2) pos) (tSl r te tl th) := by
  intro pins s σ H Q I h
  refine Subscript_ (thn (he pins s σ H _ I h) fun v s1 ⟨x, H1, I1, r1, q1⟩ => ?_)
  refine wpAny_Slice (thn (hl pins s1 σ H1 _ I1 q1) fun vl s2 ⟨l, H2, I2, pl, q2⟩ => thn (hu pins s2 σ H2 _ I2 q2) fun vu s3 ⟨u, H3, I3, pu, q3⟩ => ?_)
  rw [evalPart_none]
  refine wpAny_pure ?_
  have I4 : Inv X pins σ H3 { s3 with heap := s3.heap.push { cls := .type "slice", data := .fields #[vl, vu, .none] } } := I3.kept (t' := s3.toks) fun b ob q => Heap.get?_push_of_some _ q
  obtain ⟨T, id, hT, ht, hg⟩ := hr pins { s3 with heap := s3.heap.push { cls := .type "slice", data := .fields #[vl, vu, .none] } } σ H3 x v vl vu l u s3.heap.objs.size Q I4 r1 (Heap.IsSliceOf.new ..) pl pu q3
  show wpAny (model X.prog X.w) X.A (subscriptTail e (.Slice lo hi none p2) v (.ref s3.heap.objs.size)) (EP X pins σ Q) X.xe { s3 with heap := s3.heap.push { cls := .type "slice", data := .fields #[vl, vu, .none] } }
  exact tail_any (ops := [.ref s3.heap.objs.size, v]) ht hT hg (by with_unfolding_all rfl)
def cutV (xs : List V) (lo hi : Option Int) : List V := (xs.drop (HT.sIx xs.length 0 lo)).take (HT.sIx xs.length xs.length hi - HT.sIx xs.length 0 lo)
theorem cutV_length (xs : List V) (lo hi : Option Int) : (cutV xs lo hi).length ≤ xs.length := by
  unfold cutV
  rw [List.length_take, List.length_drop]
  omega
def rSlT (K : PySem.W.Frag) : V → Option Int → Option Int → Hp → VK → Prop := fun x lo hi H Q => ∃ a xs, x = .ref a ∧ SqT K H a xs ∧
  ¬ (HT.sIx xs.length 0 lo = 0 ∧ HT.sIx xs.length xs.length hi = xs.length) ∧ ∀ p, H p = none → Q (.ref p) (upd H p (.tup (cutV xs lo hi)))
theorem sl_tup : SlR X (rSlT X.K) := by
  intro pins s σ H x v vl vu lo hi sl Q I rx hs pl pu h
  obtain ⟨a, xs, rfl, hx, hw, q⟩ := h
  cases rx
  obtain ⟨its, r, ht, hz⟩ := I.tuple hx
  have hlen : its.toArray.size = xs.length := by rw [List.size_toArray]; exact r.length.symm
  refine ⟨"tuple", _, PyProof.Rows.slot_tuple_getitem.lookup, ht.typeIs, ?_⟩
  refine HT.getItem_tuple_cut ht hs pl pu (by rw [hlen]; exact hw) ?_ (by rw [hlen]; exact hz)
  rw [hlen]
  refine ⟨.ref s.heap.objs.size, _, I.laid (t' := s.toks) (o := .tup (cutV xs lo hi)) (fun b ob q => Heap.get?_push_of_some _ q) (Nat.le_refl _) ?_, rfl, q _ (I.hok.fresh (Nat.le_refl _))⟩
  exact ⟨Nat.le_trans (cutV_length xs lo hi) hz, _, (r.drop (HT.sIx xs.length 0 lo)).take (HT.sIx xs.length xs.length hi - HT.sIx xs.length 0 lo), IsTup.new _ _⟩
def rCatT (K : PySem.W.Frag) : R2 := fun x y H Q => ∃ a b xs ys, x = .ref a ∧ y = .ref b ∧ SqT K H a xs ∧ SqT K H b ys ∧ xs ≠ [] ∧ xs.length + ys.length ≤ sizeLine ∧
  (ys = [] → Q (.ref a) H) ∧ (ys ≠ [] → ∀ p, H p = none → Q (.ref p) (upd H p (.tup (xs ++ ys))))
theorem Vals.nil_iff {xs : List V} {us : List Value} (r : Vals xs us) : us = [] ↔ xs = [] := by
  cases r with
  | nil => simp
  | cons _ _ => simp
theorem op_catT : OpR X (binaryOp .Add) (rCatT X.K) := by
  intro pins s σ H x y v u Q I rx ry h
  obtain ⟨a, b, xs, ys, rfl, rfl, ha, hb, hx, hz, q1, q2⟩ := h
  cases rx
  cases ry
  obtain ⟨its, r1, p1, _⟩ := I.tuple ha
  obtain ⟨its2, r2, p2, _⟩ := I.tuple hb
  refine HT.cat_tup p1 p2 (fun z => hx (r1.nil_iff.mp z)) (fun z => ⟨.ref a, H, I, rfl, q1 (r2.nil_iff.mp z)⟩) (fun z => ?_) (by rw [← r1.length, ← r2.length]; exact hz)
  refine ⟨.ref s.heap.objs.size, _, I.laid (t' := s.toks) (o := .tup (xs ++ ys)) (fun b ob q => Heap.get?_push_of_some _ q) (Nat.le_refl _) ?_, rfl, q2 (fun w => z (r2.nil_iff.mpr w)) _ (I.hok.fresh (Nat.le_refl _))⟩
  exact ⟨by rw [List.length_append]; exact hz, _, r1.append r2, IsTup.new _ _⟩
end
end L2
namespace L2
open PySem PySem.Spec PyProof.Rows
def ixN (n : Nat) (i : Int) : Option Nat := if 0 ≤ i then (if i < n then some i.toNat else none) else if -(n : Int) ≤ i then some (i + n).toNat else none
def atI {α : Type} (xs : List α) (i : Int) : Option α := (ixN xs.length i).bind fun j => xs[j]?
theorem ixN_seq {n : Nat} {i : Int} {j : Nat} (h : ixN n i = some j) : seqIndex? i n = some j ∧ j < n ∧ -(n : Int) ≤ i ∧ i < n := by
  unfold ixN at h
  by_cases h0 : 0 ≤ i
  · rw [if_pos h0] at h
    by_cases h1 : i < n
    · rw [if_pos h1] at h
      have e : i.toNat = j := Option.some.inj h
      exact ⟨by rw [seqIndex_of h0 h1, e], by omega, by omega, h1⟩
    · rw [if_neg h1] at h; cases h
  · rw [if_neg h0] at h
    by_cases h1 : -(n : Int) ≤ i
    · rw [if_pos h1] at h
      have e : (i + n).toNat = j := Option.some.inj h
      exact ⟨by rw [seqIndex_neg (by omega) h1, e], by omega, h1, by omega⟩
    · rw [if_neg h1] at h; cases h
theorem atI_get {α : Type} {xs : List α} {i : Int} {v : α} (h : atI xs i = some v) : ∃ j, seqIndex? i xs.length = some j ∧ xs[j]? = some v ∧ j < xs.length ∧ -(xs.length : Int) ≤ i ∧ i < xs.length := by
  unfold atI at h
  cases e : ixN xs.length i with
  | none => rw [e] at h; cases h
  | some j =>
    rw [e] at h
    obtain ⟨h1, h2, h3, h4⟩ := ixN_seq e
    exact ⟨j, h1, h, h2, h3, h4⟩
theorem atI_nat {α : Type} {xs : List α} {j : Nat} {v : α} (h : xs[j]? = some v) : atI xs (j : Int) = some v := by
  have hj : j < xs.length := (List.getElem?_eq_some_iff.mp h).1
  have e : ixN xs.length (j : Int) = some j := by
    unfold ixN
    rw [if_pos (by omega), if_pos (by omega)]; simp
  unfold atI; rw [e]; exact h
def PlainIx (b : Expr) : Prop := ∀ o i, subscripted b false o i = operate [o, i] (getItem o i)
def IxR (X : Cx) (r : R2) : Prop :=
  ∀ (value slice : Expr) (pins : List (Addr × Obj)) (s : Shared) (σ : St) (H : Hp) (x y : V) (v u : Value) (Q : VK), Inv X pins σ H s → RelV x v → RelV y u → r x y H Q →
    subscripted slice false v u = operate [v, u] (getItem v u) → wpAny (model X.prog X.w) X.A (subscriptTail value slice v u) (EP X pins σ Q) X.xe s
def MtR (X : Cx) (id : String) (r : V → List V → Hp → VK → Prop) : Prop :=
  ∀ (pins : List (Addr × Obj)) (s : Shared) (σ : St) (H : Hp) (x : V) (xs : List V) (v : Value) (us : List Value) (Q : VK), Inv X pins σ H s → RelV x v → Vals xs us → r x xs H Q →
    wpAny (model X.prog X.w) X.A (call (.builtin id) (v :: us)) (EP X pins σ Q) X.xe s
section
variable {X : Cx} {a b : Expr} {ta tb : TE} {pos : Pos}
theorem pe_ix {r : R2} (hr : IxR X r) (ha : PE X a ta) (hb : PE X b tb) (hs : PlainIx b) : PE X (.Subscript a b pos) (tOp r ta tb) := by
  intro pins s σ H Q I h
  exact Subscript_ (binT ha hb I h fun v u s2 x y H2 I2 rx ry q => hr a b pins s2 σ H2 x y v u Q I2 rx ry q (hs _ _))
def rIxL (K : PySem.W.Frag) : R2 := fun x y H Q => ∃ p xs i v, x = .ref p ∧ y = .int i ∧ SqL K H p xs ∧ atI xs i = some v ∧ Q v H
def rIxT (K : PySem.W.Frag) : R2 := fun x y H Q => ∃ p xs i v, x = .ref p ∧ y = .int i ∧ SqT K H p xs ∧ atI xs i = some v ∧ Q v H
def rIxS : R2 := fun x y H Q => ∃ z i c, x = .str z ∧ y = .int i ∧ z.length ≤ sizeLine ∧ atI z.cps.toList i = some c ∧ Q (.str ⟨#[c]⟩) H
theorem ix_list : IxR X (rIxL X.K) := by
  intro value slice pins s σ H x y v u Q I rx ry h hs
  obtain ⟨p, xs, i, z, rfl, rfl, hq, he, q⟩ := h
  cases rx
  obtain ⟨t, rfl⟩ := ry
  obtain ⟨its, r, pl, hz⟩ := I.list hq
  obtain ⟨j, h1, h2, h3, h4, h5⟩ := atI_get he
  obtain ⟨w, ew, rw'⟩ := r.get h2
  have hl := r.length
  have hn := line63
  have fin : EP X pins σ Q w s := ⟨z, H, I, rw', q⟩
  by_cases h0 : 0 ≤ i
  · have hj : i.toNat = j := by
      rw [seqIndex_of h0 h5] at h1
      exact Option.some.inj h1
    exact item_listR pl.isList h0 (by omega) (by rw [hj]; simpa using ew) fin hs
  · have hj : (i + (its.toArray.size : Int)).toNat = j := by
      rw [seqIndex_neg (by omega) h4] at h1
      rw [List.size_toArray, ← hl]
      exact Option.some.inj h1
    exact subscriptTail_builtinR (x := w) pl.isList.typeIs slot_list_getitem.lookup
      (wpAny_getItem_list_neg (Q := fun r s' => r = w ∧ EP X pins σ Q r s') pl.isList (by omega) (by rw [List.size_toArray] <;> omega) (by omega) (by rw [hj]; simpa using ew) ⟨rfl, fin⟩) hs
theorem ix_tup : IxR X (rIxT X.K) := by
  intro value slice pins s σ H x y v u Q I rx ry h hs
  obtain ⟨p, xs, i, z, rfl, rfl, hq, he, q⟩ := h
  cases rx
  obtain ⟨t, rfl⟩ := ry
  obtain ⟨its, r, pl, hz⟩ := I.tuple hq
  obtain ⟨j, h1, h2, h3, h4, h5⟩ := atI_get he
  obtain ⟨w, ew, rw'⟩ := r.get h2
  have hl := r.length
  have hn := line63
  have fin : EP X pins σ Q w s := ⟨z, H, I, rw', q⟩
  exact subscriptTail_builtinR (x := w) pl.typeIs slot_tuple_getitem.lookup
    (getItem_tuple (j := j) (Q := fun r s' => r = w ∧ EP X pins σ Q r s') pl (by omega) (by omega) (by rw [List.size_toArray, ← hl]; exact h1) (by simpa using ew) ⟨rfl, fin⟩) hs
theorem ix_str : IxR X rIxS := by
  intro value slice pins s σ H x y v u Q I rx ry h hs
  obtain ⟨z, i, c, rfl, rfl, hz, he, q⟩ := h
  obtain ⟨t, rfl⟩ := rx
  obtain ⟨t', rfl⟩ := ry
  obtain ⟨j, h1, h2, h3, h4, h5⟩ := atI_get he
  have hl : z.cps.toList.length = z.length := by simp [Str.length]
  rw [hl] at h1 h4 h5
  have hn := line63
  exact tail_any (typeIs_str s z t) slot_str_getitem.lookup (getItem_str (c := c) (by
    have e1 : decide (i < -(2 ^ 63 : Int)) = false := decide_eq_false (by omega)
    have e2 : decide (i ≥ 2 ^ 63) = false := decide_eq_false (by omega)
    rw [e1, e2, Bool.or_false]) (by rw [h1]; simpa using h2) ⟨.str ⟨#[c]⟩, H, I.tok _, ⟨_, rfl⟩, q⟩) hs
theorem mapSeq_set (its : List Value) (n j : Nat) (u : Value) : Obj.mapSeq (·.setIfInBounds j u) { cls := .type "list", data := .seq its.toArray n } = { cls := .type "list", data := .seq (its.set j u).toArray n } := by
  simp [Obj.mapSeq]
theorem Inv.lst {pins : List (Addr × Obj)} {σ : St} {H : Hp} {s : Shared} {p : Addr} {xs : List V} (I : Inv X pins σ H s) (h : H p = some (.lst xs)) :
    ∃ (its : List Value) (n : Nat), Vals xs its ∧ s.heap.get? p = some { cls := .type "list", data := .seq its.toArray n } ∧ xs.length ≤ sizeLine := by
  obtain ⟨z, its, n, r, e⟩ := I.hok p _ h
  exact ⟨its, n, r, e, z⟩
theorem Inv.lstUpd {pins : List (Addr × Obj)} {σ : St} {H : Hp} {s : Shared} {p : Addr} {xs ys : List V} {its its' : List Value} {n n' : Nat} {f : Obj → Obj} (I : Inv X pins σ H s) (h : H p = some (.lst xs))
    (ho : s.heap.get? p = some { cls := .type "list", data := .seq its.toArray n }) (hf : f { cls := .type "list", data := .seq its.toArray n } = { cls := .type "list", data := .seq its'.toArray n' }) (r : Vals ys its') (hz : ys.length ≤ sizeLine) (t : Nat) :
    Inv X pins σ (upd H p (.lst ys)) { s with heap := s.heap.update p f, toks := t } := by
  have e : (s.heap.update p f).get? p = some { cls := .type "list", data := .seq its'.toArray n' } := by
    rw [Heap.get?_update_self f ho (by rw [hf] <;> rfl), hf]
  refine I.write (x := p) (e := p) (by rw [h]; trivial) (.inl rfl) (fun b u hb q => (Heap.get?_update_other _ _ (Ne.symm hb)).trans q) ⟨_, e⟩ ?_
  exact ⟨hz, its', n', r, e⟩
def rSetL : V → V → V → Hp → (Hp → Prop) → Prop := fun o i v H Q => ∃ p xs k j, o = .ref p ∧ i = .int k ∧ H p = some (.lst xs) ∧ ixN xs.length k = some j ∧ Q (upd H p (.lst (xs.set j v)))
theorem set_list : PSet X rSetL := by
  intro pins s σ H o i v ov iv u Q I ro ri rv h
  obtain ⟨p, xs, k, j, rfl, rfl, hp, hj, q⟩ := h
  cases ro
  obtain ⟨t, rfl⟩ := ri
  obtain ⟨its, n, r, ho, hz⟩ := I.lst hp
  obtain ⟨h1, h2, h3, h4⟩ := ixN_seq hj
  have hl := r.length
  have hn := line63
  have I' : Inv X pins σ (upd H p (.lst (xs.set j v))) { s with heap := s.heap.update p (Obj.mapSeq (·.setIfInBounds j u)) } :=
    I.lstUpd hp ho (mapSeq_set its n j u) (r.set rv j) (by rw [List.length_set]; exact hz) s.toks
  by_cases h0 : 0 ≤ k
  · have hk : k.toNat = j := by
      rw [seqIndex_of h0 h4] at h1
      exact Option.some.inj h1
    exact PySem.W.ki_setAt ho h0 (by omega) (by rw [List.size_toArray, ← hl]; exact h4) (by rw [hk]; exact ⟨_, I', q⟩)
  · have hk : (k + (its.toArray.size : Int)).toNat = j := by
      rw [seqIndex_neg (by omega) h3] at h1
      rw [List.size_toArray, ← hl]
      exact Option.some.inj h1
    exact PySem.W.ki_setBack ho (by omega) (by rw [List.size_toArray, ← hl]; exact h3) (by omega) (by rw [hk]; exact ⟨_, I', q⟩)
theorem slice_bounds (lo hi : Option Int) (n : Nat) : (sliceBounds lo hi none n).1 = ((HT.sIx n 0 lo : Nat) : Int) ∧ (sliceBounds lo hi none n).2.1 = ((HT.sIx n n hi : Nat) : Int) ∧ (sliceBounds lo hi none n).2.2 = 1 := by
  refine ⟨?_, ?_, rfl⟩
  · cases lo with
    | none => simp [sliceBounds, HT.sIx]
    | some i =>
      simp only [sliceBounds, HT.sIx, Option.getD_none, show (1 : Int) > 0 by decide, if_true]
      by_cases h : i < 0
      · simp only [h, if_true] <;> omega
      · simp only [h, if_false] <;> omega
  · cases hi with
    | none => simp [sliceBounds, HT.sIx]
    | some i =>
      simp only [sliceBounds, HT.sIx, Option.getD_none, show (1 : Int) > 0 by decide, if_true]
      by_cases h : i < 0
      · simp only [h, if_true] <;> omega
      · simp only [h, if_false] <;> omega
theorem slicePick_cut (its : List Value) (lo hi : Option Int) : slicePick its.toArray lo hi none = ((its.drop (HT.sIx its.length 0 lo)).take (HT.sIx its.length its.length hi - HT.sIx its.length 0 lo)).toArray := by
  obtain ⟨h1, h2, h3⟩ := slice_bounds lo hi its.toArray.size
  unfold slicePick
  rw [h1, h2, h3]
  simp only [sliceRange_one, pick_run, List.size_toArray] <;> rfl
def rSlL (K : PySem.W.Frag) : V → Option Int → Option Int → Hp → VK → Prop := fun x lo hi H Q => ∃ a xs, x = .ref a ∧ SqL K H a xs ∧ ∀ p, H p = none → Q (.ref p) (upd H p (.lst (cutV xs lo hi)))
theorem sl_list : SlR X (rSlL X.K) := by
  intro pins s σ H x v vl vu lo hi sl Q I rx hs pl pu h
  obtain ⟨a, xs, rfl, hx, q⟩ := h
  cases rx
  obtain ⟨its, r, ht, hz⟩ := I.list hx
  have hlen := r.length
  refine ⟨"list", _, slot_list_getitem.lookup, ht.isList.typeIs, ?_⟩
  refine wpAny_getItem_list_slice ht.isList hs pl pu .none (by simp) ?_ (by rw [List.size_toArray] <;> omega)
  rw [slicePick_cut, ← hlen]
  refine ⟨.ref s.heap.objs.size, _, I.laid (t' := s.toks) (o := .lst (cutV xs lo hi)) (fun b ob q => Heap.get?_push_of_some _ q) (Nat.le_refl _) ?_, rfl, q _ (I.hok.fresh (Nat.le_refl _))⟩
  exact ⟨Nat.le_trans (cutV_length xs lo hi) hz, _, 0, (r.drop (HT.sIx xs.length 0 lo)).take (HT.sIx xs.length xs.length hi - HT.sIx xs.length 0 lo), Heap.get?_push_size _ rfl⟩
def flatV : V → Bool
  | .non => true
  | .bl _ => true
  | .int _ => true
  | .str _ => true
  | _ => false
def eqV : V → V → Bool
  | .non, .non => true
  | .bl a, .bl b => a == b
  | .bl a, .int b => (if a then 1 else 0) == b
  | .int a, .bl b => a == (if b then 1 else 0)
  | .int a, .int b => a == b
  | .str a, .str b => a == b
  | _, _ => false
theorem eqAt_V {A : Around} {s : Shared} {y x : V} {u v : Value} (ry : RelV y u) (rx : RelV x v) (fy : flatV y = true) (fx : flatV x = true) : SeqAt.EqAt A s u v (eqV y x) := by
  cases y with
  | non =>
    cases ry
    cases x with
    | non => cases rx; exact SeqAt.EqAt.same _
    | bl b => cases rx; exact SeqAt.EqAt.none_bool b
    | int b => obtain ⟨t, rfl⟩ := rx; exact SeqAt.EqAt.none_int b t
    | str b => obtain ⟨t, rfl⟩ := rx; exact SeqAt.EqAt.none_str b t
    | _ => exact absurd (show false = true from fx) Bool.false_ne_true
  | bl a =>
    cases ry
    cases x with
    | non => cases rx; exact SeqAt.EqAt.bool_none a
    | bl b => cases rx; exact SeqAt.EqAt.bool_bool a b
    | int b => obtain ⟨t, rfl⟩ := rx; exact SeqAt.EqAt.bool_int a b t
    | str b => obtain ⟨t, rfl⟩ := rx; exact SeqAt.EqAt.bool_str a b t
    | _ => exact absurd (show false = true from fx) Bool.false_ne_true
  | int a =>
    obtain ⟨t', rfl⟩ := ry
    cases x with
    | non => cases rx; exact SeqAt.EqAt.int_none a t'
    | bl b => cases rx; exact SeqAt.EqAt.int_bool a t' b
    | int b => obtain ⟨t, rfl⟩ := rx; exact SeqAt.EqAt.int_int a t' b t
    | str b => obtain ⟨t, rfl⟩ := rx; exact SeqAt.EqAt.int_str a t' b t
    | _ => exact absurd (show false = true from fx) Bool.false_ne_true
  | str a =>
    obtain ⟨t', rfl⟩ := ry
    cases x with
    | non => cases rx; exact SeqAt.EqAt.str_none a t'
    | bl b => cases rx; exact SeqAt.EqAt.str_bool a t' b
    | int b => obtain ⟨t, rfl⟩ := rx; exact SeqAt.EqAt.str_int a t' b t
    | str b => obtain ⟨t, rfl⟩ := rx; exact SeqAt.EqAt.str_str a t' b t
    | _ => exact absurd (show false = true from fx) Bool.false_ne_true
  | _ => exact absurd (show false = true from fy) Bool.false_ne_true
def eqU (x : V) (u : Value) : Bool := match u with
  | .none => eqV .non x
  | .bool b => eqV (.bl b) x
  | .int i _ => eqV (.int i) x
  | .str z _ => eqV (.str z) x
  | _ => false
theorem eqU_of {x y : V} {u : Value} (r : RelV y u) (f : flatV y = true) : eqU x u = eqV y x := by
  cases y with
  | non => cases r; rfl
  | bl b => cases r; rfl
  | int i => obtain ⟨t, rfl⟩ := r; rfl
  | str z => obtain ⟨t, rfl⟩ := r; rfl
  | _ => exact absurd (show false = true from f) Bool.false_ne_true
theorem any_eqU {x : V} : ∀ {xs : List V} {us : List Value}, Vals xs us → xs.all flatV = true → us.any (eqU x) = xs.any fun y => eqV y x
  | _, _, .nil, _ => rfl
  | y :: xs, u :: us, .cons r t, f => by
    rw [List.all_cons, Bool.and_eq_true] at f
    rw [List.any_cons, List.any_cons, eqU_of r f.1, any_eqU t f.2]
theorem mem_eqAt {A : Around} {s : Shared} {x : V} {v : Value} (rx : RelV x v) (fx : flatV x = true) : ∀ {xs : List V} {us : List Value}, Vals xs us → xs.all flatV = true → ∀ u ∈ us, SeqAt.EqAt A s u v (eqU x u)
  | _, _, .nil, _ => fun u hu => by cases hu
  | y :: xs, u :: us, .cons r t, f => fun u' hu => by
    rw [List.all_cons, Bool.and_eq_true] at f
    rcases List.mem_cons.mp hu with rfl | hu
    · rw [eqU_of r f.1]; exact eqAt_V r rx f.1 fx
    · exact mem_eqAt rx fx t f.2 u' hu
def inV (x : V) (xs : List V) : Bool := xs.any fun y => eqV y x
def rIn (K : PySem.W.Frag) (neg : Bool) : R2 := fun x y H Q => ∃ p xs, y = .ref p ∧ (SqL K H p xs ∨ SqT K H p xs) ∧ flatV x = true ∧ xs.all flatV = true ∧ Q (.bl (if neg then !inV x xs else inV x xs)) H
theorem op_in_seq : OpR X (compareOp .In) (rIn X.K false) := by
  intro pins s σ H x y v u Q I rx ry h
  obtain ⟨p, xs, rfl, hq, fx, fs, q⟩ := h
  cases ry
  rcases hq with hq | hq
  · obtain ⟨its, r, pl, hz⟩ := I.list hq
    refine SeqAt.in_listAt (eqU x) pl.isList (fun w hw => mem_eqAt rx fx r fs w (by simpa using hw)) ⟨.bl _, H, I, rfl, ?_⟩
    rw [show its.toArray.any (eqU x) = its.any (eqU x) by simp, any_eqU r fs]
    exact q
  · obtain ⟨its, r, pl, hz⟩ := I.tuple hq
    refine SeqAt.in_tupleAt (eqU x) pl (fun w hw => mem_eqAt rx fx r fs w (by simpa using hw)) ⟨.bl _, H, I, rfl, ?_⟩
    rw [show its.toArray.any (eqU x) = its.any (eqU x) by simp, any_eqU r fs]
    exact q
theorem op_notIn_seq : OpR X (compareOp .NotIn) (rIn X.K true) := by
  intro pins s σ H x y v u Q I rx ry h
  obtain ⟨p, xs, rfl, hq, fx, fs, q⟩ := h
  cases ry
  rcases hq with hq | hq
  · obtain ⟨its, r, pl, hz⟩ := I.list hq
    refine SeqAt.notIn_listAt (eqU x) pl.isList (fun w hw => mem_eqAt rx fx r fs w (by simpa using hw)) ⟨.bl _, H, I, rfl, ?_⟩
    rw [show its.toArray.any (eqU x) = its.any (eqU x) by simp, any_eqU r fs]
    exact q
  · obtain ⟨its, r, pl, hz⟩ := I.tuple hq
    refine SeqAt.notIn_tupleAt (eqU x) pl (fun w hw => mem_eqAt rx fx r fs w (by simpa using hw)) ⟨.bl _, H, I, rfl, ?_⟩
    rw [show its.toArray.any (eqU x) = its.any (eqU x) by simp, any_eqU r fs]
    exact q
theorem call_len_seq : CallR X (.builtin "len") (fun xs H Q => ∃ p ys, xs = [.ref p] ∧ (SqL X.K H p ys ∨ SqT X.K H p ys) ∧ Q (.int ys.length) H) := by
  intro pins s σ H xs us Q I r h
  obtain ⟨p, ys, rfl, hq, q⟩ := h
  obtain ⟨u, rfl, rx⟩ := vals1 r
  cases rx
  have hn := line63
  rcases hq with hq | hq
  · obtain ⟨its, r', pl, hz⟩ := I.list hq
    have hlen := r'.length
    exact Calls.call_len_list pl.isList (by simp only [List.size_toArray] <;> omega) ⟨.int ys.length, H, I.tok _, ⟨s.toks + 1, by rw [List.size_toArray, hlen]⟩, q⟩
  · obtain ⟨its, r', pl, hz⟩ := I.tuple hq
    have hlen := r'.length
    exact len_tuple pl (by simp only [List.size_toArray] <;> omega) ⟨.int ys.length, H, I.tok _, ⟨s.toks + 1, by rw [List.size_toArray, hlen]⟩, q⟩
theorem call_len_str : CallR X (.builtin "len") (fun xs H Q => ∃ z, xs = [.str z] ∧ z.length ≤ sizeLine ∧ Q (.int z.length) H) := by
  intro pins s σ H xs us Q I r h
  obtain ⟨z, rfl, hz, q⟩ := h
  obtain ⟨u, rfl, t, rfl⟩ := vals1 r
  have hn := line63
  exact len_str (by omega) ⟨.int z.length, H, I.tok _, ⟨_, rfl⟩, q⟩
theorem call_list_of : CallR X (.type "list") (fun xs H Q => ∃ p ys, xs = [.ref p] ∧ (SqL X.K H p ys ∨ SqT X.K H p ys) ∧ ∀ l, H l = none → Q (.ref l) (upd H l (.lst ys))) := by
  intro pins s σ H xs us Q I r h
  obtain ⟨p, ys, rfl, hq, q⟩ := h
  obtain ⟨u, rfl, rx⟩ := vals1 r
  cases rx
  have fin : ∀ (its : List Value), Vals ys its → ys.length ≤ sizeLine → ∀ (h' : Heap) (c' : Nat), (∀ b o', s.heap.get? b = some o' → h'.get? b = some o') →
      h'.get? s.heap.objs.size = some { cls := .type "list", dict := none, data := .seq its.toArray c', slots := #[] } → EP X pins σ Q (.ref s.heap.objs.size) { s with heap := h' } := fun its r' hz h' c' kp e =>
    ⟨.ref s.heap.objs.size, _, I.laid (t' := s.toks) kp (Nat.le_refl _) (show ObjOk X.prog X.w _ h' _ (.lst ys) from ⟨hz, its, c', r', e⟩), rfl, q _ (I.hok.fresh (Nat.le_refl _))⟩
  rcases hq with hq | hq
  · obtain ⟨its, r', pl, hz⟩ := I.list hq
    have hlen := r'.length
    obtain ⟨o, ho, hc, n, hd⟩ := pl.isList
    exact call_list_seq p (.inl rfl) ho hc hd (fun h' c' kp e => fin its r' hz h' c' kp e) (by simp only [List.size_toArray] <;> omega)
  · obtain ⟨its, r', pl, hz⟩ := I.tuple hq
    have hlen := r'.length
    obtain ⟨o, ho, hc, n, hd⟩ := pl
    exact call_list_seq p (.inr rfl) ho hc hd (fun h' c' kp e => fin its r' hz h' c' kp e) (by simp only [List.size_toArray] <;> omega)
theorem call_tuple_of : CallR X (.type "tuple") (fun xs H Q => ∃ p ys, xs = [.ref p] ∧ ((SqL X.K H p ys ∧ ∀ l, H l = none → Q (.ref l) (upd H l (.tup ys))) ∨ (SqT X.K H p ys ∧ Q (.ref p) H))) := by
  intro pins s σ H xs us Q I r h
  obtain ⟨p, ys, rfl, h⟩ := h
  obtain ⟨u, rfl, rx⟩ := vals1 r
  cases rx
  rcases h with ⟨hq, q⟩ | ⟨hq, q⟩
  · obtain ⟨its, r', pl, hz⟩ := I.list hq
    have hlen := r'.length
    refine call_tuple_list pl.isList (fun h' kp => ?_) (by simp only [List.size_toArray] <;> omega)
    have I1 : Inv X pins σ H { s with heap := h' } := I.kept (t' := s.toks) kp
    have I2 : Inv X pins σ (upd H h'.objs.size (.tup ys)) { s with heap := h'.push { cls := .type "tuple", data := .seq its.toArray } } :=
      I1.laid (t' := s.toks) (fun b o e => Heap.get?_push_of_some _ e) (Nat.le_refl _) (show ObjOk X.prog X.w _ _ _ (.tup ys) from ⟨hz, its, r', IsTup.new _ _⟩)
    exact ⟨.ref h'.objs.size, _, I2, rfl, q _ (I1.hok.fresh (Nat.le_refl _))⟩
  · obtain ⟨its, r', pl, hz⟩ := I.tuple hq
    exact call_tuple_same pl ⟨.ref p, H, I, rfl, q⟩
def tyV (K : PySem.W.Frag) (T : String) (x : V) (H : Hp) : Prop := match x with
  | .str _ => T = "str"
  | .int _ => T = "int"
  | .ref p => (T = "list" ∧ ∃ xs, SqL K H p xs) ∨ (T = "tuple" ∧ ∃ o, K.lookup p = some o ∧ o.cls = .type "tuple" ∧ o.dict = none) ∨
      (T = "dict" ∧ ((∃ kvs, H p = some (.dK kvs)) ∨ ∃ kvs, H p = some (.dT kvs))) ∨ (T = "set" ∧ ∃ S n, H p = some (.set S n))
  | _ => False
theorem tyV_is {pins : List (Addr × Obj)} {σ : St} {H : Hp} {s : Shared} {T : String} {x : V} {v : Value} (I : Inv X pins σ H s) (r : RelV x v) (ty : tyV X.K T x H) :
    s.TypeIs v T ∧ ∀ a, v = .ref a → ∃ ob, s.heap.get? a = some ob ∧ ob.dict = none := by
  cases x with
  | str z =>
    obtain ⟨t, rfl⟩ := r
    cases (show T = "str" from ty)
    exact ⟨typeIs_str s z t, fun _ e => nomatch e⟩
  | int i =>
    obtain ⟨t, rfl⟩ := r
    cases (show T = "int" from ty)
    exact ⟨typeIs_int s i t, fun _ e => nomatch e⟩
  | ref p =>
    cases r
    rcases ty with ⟨rfl, xs, hq⟩ | ⟨rfl, o, hk, hc, hd⟩ | ⟨rfl, hk⟩ | ⟨rfl, S, n, hk⟩
    · obtain ⟨its, _, pl, _⟩ := I.list hq
      refine ⟨pl.isList.typeIs, fun a e => ?_⟩
      cases e
      obtain ⟨o, n, e, c, hd, _⟩ := pl
      exact ⟨o, e, hd⟩
    · refine ⟨⟨o, I.kIn p o hk, hc⟩, fun a e => ?_⟩
      cases e
      exact ⟨o, I.kIn _ o hk, hd⟩
    · have z : ∃ o, s.heap.get? p = some o ∧ o.ExactDict := by
        rcases hk with ⟨kvs, hk⟩ | ⟨kvs, hk⟩
        · obtain ⟨_, _, _, _, o, _, _, e, ex, _⟩ := I.hok p _ hk
          exact ⟨o, e, ex⟩
        · obtain ⟨_, _, _, _, o, _, _, e, ex, _⟩ := I.hok p _ hk
          exact ⟨o, e, ex⟩
      obtain ⟨o, e, ex⟩ := z
      refine ⟨⟨o, e, ex.1⟩, fun a e2 => ?_⟩
      cases e2
      exact ⟨o, e, ex.2.1⟩
    · obtain ⟨o, _, _, _, e, ex, _⟩ := I.hok p _ hk
      refine ⟨⟨o, e, ex.1⟩, fun a e2 => ?_⟩
      cases e2
      exact ⟨o, e, ex.2.1⟩
  | _ => exact False.elim ty
def tBM (K : PySem.W.Frag) (T : String) (r : V → List V → Hp → VK → Prop) (to : TE) (t : TA) : TE := fun σ H Q => to σ H fun x H1 => tyV K T x H1 ∧ t σ H1 fun xs H2 => r x xs H2 Q
variable {o e : Expr} {es : List Expr} {to : TE} {t : TA} {name : Str} {apos cpos : Pos} {T id : String} {r : V → List V → Hp → VK → Prop}
theorem pe_bm (pa : PlainAttrs T) (slot : Slot T name id) (hty : typeOf (.builtin id) = pure (.type "method_descriptor")) (hm : MtR X id r) (ho : PE X o to) (ha : PA X (e :: es) t)
    (hbase : attributeBase o name X.env (eval o X.env) = eval o X.env := by rfl)
    (hfew : ((backTo cpos (starEach (e :: es) X.env)).all (fun x => !x.1) && (backToKw cpos (keywordEach [] X.env)).all (fun x => x.1.isSome)
      && decide ((e :: es).length + ([] : List Keyword).length + (if ([] : List Keyword).isEmpty then 0 else 1) < 30)) = true := by rfl)
    (hline : (apos.endLine == cpos.line) = true := by rfl) (hs : starEach (e :: es) X.env = (false, eval e X.env) :: starEach es X.env := by rfl) (hplain : (backTo cpos (starEach es X.env)).any (·.1) = false := by rfl) :
    PE X (.Call (.Attribute o name apos) (e :: es) [] cpos) (tBM X.K T r to t) := by
  intro pins s σ H Q I h
  refine wpAny_Call_method_late hbase hfew hline rfl (thn (ho pins s σ H _ I h) fun v s1 ⟨x, H1, I1, r1, ty, q1⟩ => ?_)
  obtain ⟨h1, h2⟩ := tyV_is I1 r1 ty
  refine ⟨T, id, pa, slot, hty, h1, h2, ?_⟩
  have hA := ha cpos pins s1 σ H1 _ I1 q1
  rw [hs] at hA ⊢
  refine Calls.callWith_builtin (by show (false || (backTo cpos (starEach es X.env)).any (·.1)) = false; rw [hplain] <;> rfl) (Calls.evalArgs_plain ?_)
  exact thn hA fun us s2 ⟨vs, H2, I2, r2, q2⟩ => hm pins s2 σ H2 x vs v us Q I2 r1 r2 q2
end
end L2
namespace L2
open PySem PySem.Spec PyProof.Rows
def MtM (X : Cx) (id : String) (r : V → List V → Hp → VK → Prop) : Prop :=
  ∀ (pins : List (Addr × Obj)) (s : Shared) (σ : St) (H : Hp) (x : V) (xs : List V) (v : Value) (us : List Value) (Q : VK), Inv X pins σ H s → RelV x v → Vals xs us → r x xs H Q →
    wpAny (model X.prog X.w) X.A (call (.builtin id) (v :: us)) (EP X pins σ Q) X.xe s
theorem Vals.one : ∀ {x : V} {us : List Value}, Vals [x] us → ∃ u, us = [u] ∧ RelV x u
  | _, _, .cons r .nil => ⟨_, rfl, r⟩
theorem Vals.zero : ∀ {us : List Value}, Vals [] us → us = []
  | _, .nil => rfl
theorem Vals.reverse {xs : List V} {us : List Value} (h : Vals xs us) : Vals xs.reverse us.reverse := by
  induction h with
  | nil => exact .nil
  | cons r t ih => rw [List.reverse_cons, List.reverse_cons]; exact Vals.append ih (.cons r .nil)
section
variable {X : Cx} {pins : List (Addr × Obj)} {σ : St} {H : Hp} {s : Shared} {l b : Addr} {xs ys zs : List V}
theorem Inv.lset {its its' : List Value} {n : Nat} {f : Array Value → Array Value} {t' : Nat} (I : Inv X pins σ H s) (hH : H l = some (.lst xs))
    (e : s.heap.get? l = some { cls := .type "list", data := .seq its.toArray n }) (hf : f its.toArray = its'.toArray) (hv : Vals ys its') (hz : ys.length ≤ sizeLine) :
    Inv X pins σ (upd H l (.lst ys)) { s with heap := s.heap.update l (Obj.mapSeq f), toks := t' } := by
  have q := PySem.IsL.update e f
  rw [hf] at q
  refine I.write (x := l) (e := l) (by rw [hH]; exact trivial) (.inl rfl) (fun b' u hb hu => (Heap.get?_update_other s.heap (Obj.mapSeq f) (Ne.symm hb)).trans hu) ⟨_, q⟩ ?_
  exact ⟨hz, its', _, hv, q⟩
theorem Inv.lnew {its : List Value} {t' : Nat} (I : Inv X pins σ H s) (hv : Vals ys its) (hz : ys.length ≤ sizeLine) :
    Inv X pins σ (upd H s.heap.objs.size (.lst ys)) { s with heap := s.heap.push { cls := .type "list", data := .seq its.toArray }, toks := t' } :=
  I.laid (fun _ _ q => Heap.get?_push_of_some _ q) (Nat.le_refl _) ⟨hz, its, 0, hv, Heap.get?_push_size _ rfl⟩
theorem Inv.fresh (I : Inv X pins σ H s) : H s.heap.objs.size = none := I.hok.fresh (Nat.le_refl _)
theorem Inv.lstM (I : Inv X pins σ H s) (hH : H l = some (.lst xs)) : xs.length ≤ sizeLine ∧ ∃ (its : List Value) (n : Nat), Vals xs its ∧ xs.length = its.length ∧ s.heap.get? l = some { cls := .type "list", data := .seq its.toArray n } := by
  obtain ⟨z, its, n, r, e⟩ := I.hok l _ hH
  exact ⟨z, its, n, r, r.length, e⟩
end
section
variable {X : Cx}
def rAppend : V → List V → Hp → VK → Prop := fun x vs H Q => ∃ l xs y, x = .ref l ∧ vs = [y] ∧ H l = some (.lst xs) ∧ xs.length < sizeLine ∧ Q .non (upd H l (.lst (xs ++ [y])))
theorem mt_append : MtM X "list.append" rAppend := by
  intro pins s σ H x vs v us Q I rx rv h
  obtain ⟨l, xs, y, rfl, rfl, hH, hz, q⟩ := h
  cases rx
  obtain ⟨u, rfl, ru⟩ := rv.one
  obtain ⟨z, its, n, r, hl, e⟩ := I.lstM hH
  refine call_meets F.slot_list_append ⟨_, e, rfl⟩ F.entry_list_append (F.args_list_append_2 _ _) (PySem.list_append l its.toArray n u (by rw [List.size_toArray]; omega)) ⟨e, ?_⟩
  refine ⟨.non, _, I.lset (its' := its ++ [u]) hH e (by simp) (r.append (.cons ru .nil)) ?_, rfl, q⟩
  rw [List.length_append, List.length_singleton]
  omega
def rCat : R2 := fun x y H Q => ∃ l b xs zs, x = .ref l ∧ y = .ref b ∧ H l = some (.lst xs) ∧ H b = some (.lst zs) ∧ xs.length + zs.length ≤ sizeLine ∧ ∀ p, H p = none → Q (.ref p) (upd H p (.lst (xs ++ zs)))
theorem op_cat : OpR X (binaryOp .Add) rCat := by
  intro pins s σ H x y v u Q I rx ry h
  obtain ⟨l, b, xs, zs, rfl, rfl, hH, hB, hz, q⟩ := h
  cases rx
  cases ry
  obtain ⟨z, its, n, r, hl, e⟩ := I.lstM hH
  obtain ⟨z2, its2, n2, r2, hl2, e2⟩ := I.lstM hB
  refine PySem.P.add_list e e2 ?_ (by rw [List.size_toArray, List.size_toArray]; omega)
  have ea : its.toArray ++ its2.toArray = (its ++ its2).toArray := by simp
  rw [ea]
  exact ⟨.ref _, _, I.lnew (t' := s.toks) (r.append r2) (by rw [List.length_append]; omega), rfl, q _ I.fresh⟩
theorem len_rep {α : Type} (xs : List α) (k : Nat) : (List.replicate k xs).flatten.length = k * xs.length := by
  induction k with
  | zero => simp
  | succ k ih => rw [List.replicate_succ, List.flatten_cons, List.length_append, ih, Nat.succ_mul, Nat.add_comm]
end
section
variable {prog : Program} {w : World} {A : Around} {E : Value → Shared → Prop} {s : Shared}
end
section
variable {X : Cx}
end
end L2
namespace Att
open PySem PySem.W PySem.Calls PyProof.Rows
theorem ints_of_wellAll {P : Params} {h : Heap} : ∀ (ns : List Int) (vs : List Value), WellAll P h vs (ns.map WData.int) → IntsAre vs ns := by
  intro ns
  induction ns with
  | nil =>
    intro vs w
    rw [List.map_nil] at w
    cases w
    exact .nil
  | cons n ns ih =>
    intro vs w
    rw [List.map_cons] at w
    cases w with
    | cons a b =>
      cases a
      exact .cons _ _ (ih _ b)
theorem script_of {l : OpenLaw} {n : Nat} (hn : l.most = some n) {P : Params} {h : Heap} {args : List WData} {vals : List Value}
    (hpre : l.row.toRowW.claim.pre args = true) (hwl : WellAll P h vals args) :
    ∃ a vs ns, vals = [Value.ref a] ∧ args = [WData.list (ns.map WData.int)] ∧ h.get? a = some { cls := .type "list", data := .seq vs.toArray } ∧ IntsAre vs ns ∧ ns.length ≤ n := by
  have hsh : WShape.hasAll [] args [.list .int] = true := (pre_splitW hpre).1
  have hc : l.pre.holds [] { args := args } = true := (pre_splitW hpre).2
  obtain ⟨d, r, rfl, h1, h2⟩ := hasAllW_cons hsh
  obtain rfl := hasAllW_nil h2
  obtain ⟨xs, rfl, h3⟩ := hasW_list h1
  obtain ⟨ns, rfl⟩ := items_int h3
  have hlen : ns.length ≤ n := by
    unfold OpenLaw.pre at hc
    have h4 : (WTm.not (.lt (.lit (.int (n : Int))) (.len (.arg 0)))).holds [] { args := [.list (ns.map .int)] } = true := by
      have h4 := (holds_andW hc).1
      rw [hn] at h4
      exact h4
    have h5 := condW_of h4 (w_not (w_lt w_lit (w_len_list (w_arg rfl))))
    rw [List.length_map] at h5
    refine Nat.le_of_not_lt fun q => ?_
    have q' : (n : Int) < ((ns.length : Nat) : Int) := by omega
    first
      | (rw [decide_eq_true q'] at h5; exact absurd h5 (by decide))
      | (simp at h5; omega)
  cases hwl with
  | cons w1 w2 =>
    cases w2
    cases w1 with
    | list ho hall => exact ⟨_, _, ns, rfl, rfl, ho, ints_of_wellAll ns _ hall, hlen⟩
theorem post_true (l : OpenLaw) (args : List WData) : l.row.toRowW.claim.post args (.bool true) args = true :=
  postW_of (r := l.row.toRowW) (X := (true == true))
    (show WShape.has [] (.bool true) .bool = true by first | rfl | decide | simp [WShape.has, WShape.arms, WShape.armsAll])
    (show (WTm.eq .res (.lit (.bool true))).value [] { args := args, res := some (.bool true), after := args } = some (.bool (true == true)) from w_eq_bool (w_res rfl) w_lit) rfl
theorem attach_call {l : OpenLaw} {n : Nat} {q : Program} {loose : List Str} {XP : (Str → Option Value) → Heap → Prop} {YP : World → Heap → Prop} {d : DefRec}
    (hn : l.most = some n) (hdf : d.params.defaults = [])
    (call : ∀ (w : World) (s₀ s₁ : Shared) (mg mb : Str → Option Value) (fa : Addr) (o : Obj) (pm cd doc : Value) (a : Addr) (vs : List Value) (ns : List Int),
      Ground q loose [] XP w s₀ mg mb s₁.heap → YP w s₁.heap →
      s₁.heap.get? fa = some o → o.data = .func (docDef d.name d.params d.body d.scope pm cd doc) → s₁.heap.CodeRec cd d.name → mg d.name = some (.ref fa) →
      s₁.heap.get? a = some { cls := .type "list", data := .seq vs.toArray } → IntsAre vs ns → ns.length ≤ n → s₁.gens = #[] →
      codeAny (model l.prog w) callerA (.call (.ref fa) ⟨[.ref a], []⟩) (fun r s' => r = .ok (.ret (.bool true)) ∧ OldK s₁.heap s'.heap ∧ s'.os = s₁.os ∧ AllBare s'.gens) s₁) :
    WalkO q loose XP YP l.row.toRowW d [] (fun f vs => PySem.call f vs) := by
  intro w s₀ s₁ mg mb G Y fa o pm cd doc dV kV ho hd hcd hD hmg hg args vals as hpre hlay hrd hwl hlo
  obtain rfl : dV = .none := Dflts.none hD hdf
  obtain rfl : kV = .none := Dflts.noKw hD
  obtain ⟨a, vs, ns, rfl, rfl, hobj, hints, hlen⟩ := script_of hn hpre hwl
  refine enter_call (codeAny_mono (call w s₀ s₁ mg mb fa o pm cd doc a vs ns G Y ho (fd_plain hd) hcd hmg hobj hints hlen hg) fun r s' hq => ?_)
  obtain ⟨rfl, h2, h3, h4⟩ := hq
  exact ⟨.inl ⟨.bool true, .bool true, [], rfl, fun _ => rfl, .bool true, post_true l _, fun _ => ⟨List.Pairwise.nil, fun _ hm => (nomatch hm)⟩⟩, h2, h3, h4⟩
section
variable {prog : Program} {w : World} {A : Around} {E : Value → Shared → Prop} {s : Shared} {K : Frag}
end
end Att
namespace L2
open PySem PySem.Spec PyProof.Rows
theorem vals_ints : ∀ {vs : List Value} {ns : List Int}, IntsAre vs ns → Vals (ns.map V.int) vs
  | _, _, .nil => .nil
  | _, _, .cons n t h => .cons ⟨t, rfl⟩ (vals_ints h)
def Only (H : Hp) : Prop := ∀ b, H b = none ∨ ∃ o xs, H b = some (.frz o (.lst xs))
theorem law_call {P : Program} {w : World} {K : PySem.W.Frag} {mg mb : Str → Option Value} {CX : CXT} {k : Nat} {fa a : Addr} {fd : FuncData} {x : Str} {sp : Sp} {s₁ : Shared} {vs : List Value} {ns : List Int}
    (KX : K.In s₁.heap) (hns : s₁.heap.Ns mainGlobals mg) (hb : s₁.heap.Ns builtinsNs mb) (hbb : ∀ x : Str, x ≠ "__name__" → mb x = bootBuiltins x) (hlim : s₁.heap.NoLimit) (hg : s₁.gens = #[])
    (ha : s₁.heap.get? a = some { cls := .type "list", data := .seq vs.toArray }) (hi : IntsAre vs ns) (hl : ns.length ≤ sizeLine) (hr : Room k callerA)
    (F : ∀ base : Heap, K.In base → base.Ns mainGlobals mg → FnOk P w K mg base CX k fa fd [x] sp) (hbind : ∀ (s : Shared) (u : Value), BindsTo s fd ⟨[u], []⟩ [(x, u)])
    (hsp : ∀ H : Hp, Only H → SqL K H a (ns.map V.int) → sp [.ref a] H (fun v _ => v = .bl true) fun _ _ _ => False)
    (hCX : ∀ H e s', CX [] H s₁ (fun _ _ _ => False) e s' → False) :
    codeAny (model P w) callerA (.call (.ref fa) ⟨[.ref a], []⟩) (fun r s' => r = .ok (.ret (.bool true)) ∧ OldK s₁.heap s'.heap ∧ s'.os = s₁.os ∧ AllBare s'.gens) s₁ := by
  have rv := vals_ints hi
  have lenV := hi.length
  have core : ∀ H : Hp, Only H → SqL K H a (ns.map V.int) → HOk P w H s₁.heap → (∀ b, H b ≠ none → b = a) → (H a ≠ none → K.lookup a = none) →
      codeAny (model P w) callerA (.call (.ref fa) ⟨[.ref a], []⟩) (fun r s' => r = .ok (.ret (.bool true)) ∧ OldK s₁.heap s'.heap ∧ s'.os = s₁.os ∧ AllBare s'.gens) s₁ := by
    intro H hO hS hok hA hK
    have base_of : ∀ {b : Addr} {o : Obj}, s₁.heap.get? b = some o → H b = none → (hidT s₁.heap H).get? b = some o := fun e n => hidT_get e n
    have noA : ∀ {b : Addr} {o : Obj} {es : Array DictEntry} {ep : Nat}, s₁.heap.get? b = some o → o.data = .dict es ep → H b = none := fun {b o es ep} e d => by
      cases q : H b with
      | none => rfl
      | some u =>
        have e' : b = a := hA b (by rw [q]; simp)
        subst e'
        rw [ha] at e; cases e
        have d' : Data.seq vs.toArray _ = Data.dict es ep := d
        cases d'
    have nsK : ∀ {b : Addr} {m : Str → Option Value}, s₁.heap.Ns b m → (hidT s₁.heap H).Ns b m := fun {b m} ⟨o, es, ep, e, d, r⟩ => ⟨o, es, ep, base_of e (noA e d), d, r⟩
    have hKb : K.In (hidT s₁.heap H) := fun b o e => base_of (KX b o e) (by
      cases q : H b with
      | none => rfl
      | some u =>
        have e' : b = a := hA b (by rw [q]; simp)
        subst e'
        rw [hK (by rw [q]; simp)] at e; cases e)
    have hM : Mod K mg (hidT s₁.heap H) := ⟨hKb, nsK hns, ⟨mb, nsK hb, hbb⟩, let ⟨mc, h1, h2⟩ := hlim; ⟨mc, nsK h1, h2⟩⟩
    have e0 : Env0 P w K mg (hidT s₁.heap H) callerA [] s₁ H := ⟨rfl, hM, fun b o e => of_hidT e, Nat.le_of_eq (hidT_size _ _), trivial, fun b hb => absurd (show b ∈ ([] : List Addr) from hb) (by simp), hok, .of_eq hg⟩
    refine codeAny_mono ((F _ hKb (nsK hns)).run callerA [] s₁ H ⟨[.ref a], []⟩ [.ref a] [.ref a] _ _ hr e0 (hbind s₁ (.ref a)) (.cons rfl .nil) (hsp H hO hS)) fun r s' h => ?_
    cases r with
    | error e => exact (hCX H e s' h).elim
    | ok fl =>
      cases fl with
      | next => exact False.elim h
      | brk => exact False.elim h
      | cont => exact False.elim h
      | ret u =>
        obtain ⟨v, H', os, bare, un, hok', r', q⟩ := h
        have q' : v = .bl true := q
        subst q'
        obtain rfl : u = Value.bool true := r'
        refine ⟨rfl, OldK.of_keep fun b o e => ?_, os, bare⟩
        cases q : H b with
        | none => exact un.keep b o e q (by intro z; exact absurd (show b ∈ ([] : List Addr) from z) (by simp)) (by simp)
        | some u =>
          rcases hO b with z | ⟨ob, xs, z⟩
          · rw [q] at z; cases z
          · have z2 := un.frzs b ob _ z
            obtain ⟨e1, _⟩ := hok b _ z
            obtain ⟨e2, _⟩ := hok' b _ z2
            rw [e] at e1; cases e1
            exact e2
  cases hk : K.lookup a with
  | some o =>
    have e := KX a o hk
    rw [ha] at e
    cases e
    refine core (fun _ => none) (fun _ => .inl rfl) (.inr ⟨_, vs.toArray, _, hk, rfl, rfl, rfl, by rw [List.size_toArray, lenV]; exact hl, by simpa using rv⟩) (fun b u z => by have z' : (none : Option HO) = some u := z; cases z') (fun b z => absurd rfl z) fun z => absurd rfl z
  | none =>
    refine core (fun b => if b = a then some (.frz { cls := .type "list", data := .seq vs.toArray } (.lst (ns.map V.int))) else none) (fun b => ?_) (.inl (.inr ⟨{ cls := .type "list", data := .seq vs.toArray }, if_pos rfl⟩)) (fun b u z => ?_) (fun b z => ?_) fun _ => hk
    · by_cases hb : b = a
      · exact .inr ⟨_, _, if_pos hb⟩
      · exact .inl (if_neg hb)
    · by_cases hb : b = a
      · have z' := (if_pos hb).symm.trans z
        cases z'
        subst hb
        exact ⟨ha, by rw [List.length_map]; exact hl, vs, _, rv, ha⟩
      · have z' := (if_neg hb).symm.trans z
        cases z'
    · by_cases hb : b = a
      · exact hb
      · exact absurd (if_neg hb) z
end L2
namespace L2
open PySem PySem.Spec PyProof.Rows
theorem walk_of {l : PySem.W.OpenLaw} {n k : Nat} {q : Program} {loose : List Str} {XP : (Str → Option Value) → Heap → Prop} {YP : World → Heap → Prop} {d : DefRec} {K : Params → PySem.W.Frag} {CX : World → CXT} {sp : World → Sp} {x : Str}
    (hn : l.most = some n) (hn2 : n ≤ sizeLine) (hdf : d.params.defaults = []) (hr : Room k callerA)
    (hY : ∀ (w : World) (h : Heap), YP w h → (K w.params).In h)
    (F : ∀ (w : World) (mg : Str → Option Value) (fa : Addr) (h : Heap), (K w.params).In h → h.Ns mainGlobals mg → mg d.name = some (.ref fa) →
      ∃ fd : FuncData, (∀ (s : Shared) (u : Value), BindsTo s fd ⟨[u], []⟩ [(x, u)]) ∧
        ∀ base : Heap, (K w.params).In base → base.Ns mainGlobals mg → FnOk l.prog w (K w.params) mg base (CX w) k fa fd [x] (sp w))
    (hsp : ∀ (w : World) (H : Hp) (a : Addr) (ns : List Int), ns.length ≤ n → Only H → SqL (K w.params) H a (ns.map V.int) → sp w [.ref a] H (fun v _ => v = .bl true) fun _ _ _ => False)
    (hCX : ∀ (w : World) (H : Hp) (s : Shared) (e : Value) (s' : Shared), CX w [] H s (fun _ _ _ => False) e s' → False) :
    PySem.W.WalkO q loose XP YP l.row.toRowW d [] (fun f vs => PySem.call f vs) := by
  refine Att.attach_call hn hdf fun w s₀ s₁ mg mb fa o pm cd doc a vs ns G Y ho hd hcd hmg hobj hints hlen hg => ?_
  have KX := hY w _ Y
  obtain ⟨fd, hb, hF⟩ := F w mg fa _ KX G.T.g hmg
  exact law_call KX G.T.g G.T.b G.T.builtins G.T.nolimit hg hobj hints (Nat.le_trans hlen hn2) hr hF hb (fun H hO hS => hsp w H a ns hlen hO hS) fun H e s' => hCX w H s₁ e s'
end L2
namespace L2
open PySem PySem.Spec PyProof.Rows
abbrev CX0 : CXT := fun _ _ _ _ _ _ => False
abbrev E0 : XK := fun _ _ _ => False
theorem pass0 {X : Cx} : Passes CX0 X E0 := fun _ _ _ _ _ _ _ h => h.elim
structure Fun (K : PySem.W.Frag) (x qual : Str) (st : Stmt) (f : Addr) (fd : FuncData) : Prop where
  ex : ∃ (oc : Value) (od : Option Addr) (kV doc pm : Value) (an : Option Addr) (cdv ct : Value) (osl : Array (Option Value)),
    fd = PySem.W.fnOf x qual (defArgs st) (defBody st) (defScope st) .none kV doc pm an cdv ct ∧ K.lookup f = some ⟨oc, od, .func fd, osl⟩ ∧ PySem.W.codeIn K cdv qual = true
  kp : PySem.W.keepIn K (.ref f) = true
section
variable {P : Program} {w : World} {K : PySem.W.Frag} {mg : Str → Option Value} {base : Heap}
theorem Fun.ok {x qual : Str} {st : Stmt} {f : Addr} {fd : FuncData} {N ps : List Str} {k : Nat} {sp : Sp} (F : Fun K x qual st f fd) (S : FnScope N ps (defScope st)) (len : ∀ vs H Q E, sp vs H Q E → vs.length = ps.length)
    (hbody : ∀ (cdv : Value) (A : Around) (outer : List Env) (s : Shared) (H : Hp) (vs : List V) (Q : VK) (E : XK), Room k (A.deeper (envOfC qual (defScope st) s.heap.objs.size f cdv)) → sp vs H Q E →
      ∃ t, PSs (cxOf CX0 P w K mg base N qual (defScope st) f cdv A outer s H E).nox (defBody st) t ∧ t { nx := fun _ H' => Q .non H', rt := Q } (start N vs) H) : FnOk P w K mg base CX0 (k + 1) f fd ps sp := by
  obtain ⟨oc, od, kV, doc, pm, an, cdv, ct, osl, rfl, lk, hcd⟩ := F.ex
  refine fn_of lk hcd S len fun A outer s H vs Q E hr hsp => ?_
  obtain ⟨t, h, q⟩ := hbody cdv A outer s H vs Q E hr hsp
  exact ⟨t, h.nox, q⟩
theorem Fun.binds {x qual : Str} {st : Stmt} {f : Addr} {fd : FuncData} {ps : List Str} (F : Fun K x qual st f fd)
    (h : ∀ (kV doc pm : Value) (an : Option Addr) (cdv ct : Value) (us : List Value), us.length = ps.length → bindArgs (PySem.W.fnOf x qual (defArgs st) (defBody st) (defScope st) .none kV doc pm an cdv ct) ⟨us, []⟩ = pure (ps.zip us)) : Binds K fd ps [] := by
  obtain ⟨oc, od, kV, doc, pm, an, cdv, ct, osl, rfl, lk, hcd⟩ := F.ex
  exact .all (h kV doc pm an cdv ct)
theorem fun_mk {x qual : Str} {st : Stmt} {f : Addr} {oc : Value} {od an : Option Addr} {osl : Array (Option Value)} {kV doc pm cdv ct : Value} (l : K.lookup f = some ⟨oc, od, .func (PySem.W.fnOf x qual (defArgs st) (defBody st) (defScope st) .none kV doc pm an cdv ct), osl⟩)
    (c : PySem.W.codeIn K cdv qual = true) (k : PySem.W.keepIn K (.ref f) = true) : Fun K x qual st f (PySem.W.fnOf x qual (defArgs st) (defBody st) (defScope st) .none kV doc pm an cdv ct) := ⟨⟨oc, od, kV, doc, pm, an, cdv, ct, osl, rfl, l, c⟩, k⟩
end
theorem hu_of {A : Around} {k : Nat} (hr : Room k A) : A.units + 1 < cLine := Nat.lt_of_le_of_lt (Nat.add_le_add_left (by decide : 1 ≤ 64) _) hr.units
section
variable {X : Cx}
theorem pv (i : Nat) {x : Str} {pos : Pos} (hN : X.N[i]? = some x := by rfl) (hv : Vis X.env.scope x := by first | exact Or.inl rfl | exact Or.inr (Or.inl rfl) | exact Or.inr (Or.inr rfl)) (hd : (x == ("__debug__" : Str)) = false := by decide)
    (hcd : (x == ("__classdict__" : Str)) = false := by decide) : PE X (.Name x pos) (tVar i) := pe_var hN hv hd hcd
end
theorem iteF {A B : Prop} (h : B) : if false = true then A else B := by
  rw [if_neg Bool.false_ne_true]
  exact h
theorem iteT {A B : Prop} (h : A) : if true = true then A else B := by
  rw [if_pos rfl]
  exact h
theorem ite2 {c A B : Prop} [Decidable c] (h1 : c → A) (h2 : ¬ c → B) : if c then A else B := by
  by_cases h : c
  · rw [if_pos h]
    exact h1 h
  · rw [if_neg h]
    exact h2 h
def Same (H H' : Hp) : Prop := ∀ b o, H b = some o → H' b = some o
theorem Same.refl (H : Hp) : Same H H := fun _ _ h => h
theorem Same.trans {H H1 H2 : Hp} (a : Same H H1) (b : Same H1 H2) : Same H H2 := fun c o h => b c o (a c o h)
theorem Same.free {H H' : Hp} (e : Same H H') {l : Addr} (h : H' l = Option.none) : H l = Option.none := by
  cases q : H l with
  | none => rfl
  | some o =>
    rw [e l o q] at h
    cases h
theorem Same.seq {K : PySem.W.Frag} {H H' : Hp} {a : Addr} {xs : List V} (e : Same H H') (h : SqL K H a xs) : SqL K H' a xs := by
  rcases h with (h | ⟨o, h⟩) | h
  · exact .inl (.inl (e _ _ h))
  · exact .inl (.inr ⟨o, e _ _ h⟩)
  · exact .inr h
end L2
set_option Elab.async false
set_option linter.all false
set_option maxRecDepth 100000
namespace L2
open PySem PySem.Spec PyProof.Rows
inductive D where
  | non | bl (b : Bool) | int (i : Int) | str (x : Str) | tup (xs : List D) | lst (xs : List D)
mutual
def IsD (K : PySem.W.Frag) (H : Hp) : D → V → Prop
  | .non, v => v = .non
  | .bl b, v => v = .bl b
  | .int i, v => v = .int i
  | .str x, v => v = .str x
  | .tup ds, v => ∃ a vs, v = .ref a ∧ SqT K H a vs ∧ AreD K H ds vs
  | .lst ds, v => ∃ a vs, v = .ref a ∧ SqL K H a vs ∧ AreD K H ds vs
def AreD (K : PySem.W.Frag) (H : Hp) : List D → List V → Prop
  | [], vs => vs = []
  | d :: ds, vs => ∃ v r, vs = v :: r ∧ IsD K H d v ∧ AreD K H ds r
end
mutual
def eqD : D → D → Bool
  | .non, .non => true
  | .bl a, .bl b => a == b
  | .bl a, .int b => (if a then 1 else 0) == b
  | .int a, .bl b => a == (if b then 1 else 0)
  | .int a, .int b => a == b
  | .str a, .str b => a == b
  | .tup xs, .tup ys => eqDs xs ys
  | .lst xs, .lst ys => eqDs xs ys
  | _, _ => false
def eqDs : List D → List D → Bool
  | [], [] => true
  | x :: xs, y :: ys => eqD x y && eqDs xs ys
  | _, _ => false
end
theorem AreD.length {K : PySem.W.Frag} {H : Hp} : ∀ {ds : List D} {vs : List V}, AreD K H ds vs → ds.length = vs.length
  | [], vs, h => by
    have e : vs = [] := h
    subst e
    rfl
  | d :: ds, vs, h => by
    obtain ⟨v, r, e, _, h2⟩ := (show ∃ v r, vs = v :: r ∧ IsD K H d v ∧ AreD K H ds r from h)
    rw [e, List.length_cons, List.length_cons, AreD.length h2]
theorem AreD.get {K : PySem.W.Frag} {H : Hp} : ∀ {ds : List D} {vs : List V} {i : Nat} {d : D}, AreD K H ds vs → ds[i]? = some d → ∃ v, vs[i]? = some v ∧ IsD K H d v
  | [], vs, i, d, _, e => by simp at e
  | d :: ds, vs, 0, d', h, e => by
    obtain ⟨v, r, rfl, h1, _⟩ := (show ∃ v r, vs = v :: r ∧ IsD K H d v ∧ AreD K H ds r from h)
    simp at e; subst e
    exact ⟨v, rfl, h1⟩
  | d :: ds, vs, i + 1, d', h, e => by
    obtain ⟨v, r, rfl, _, h2⟩ := (show ∃ v r, vs = v :: r ∧ IsD K H d v ∧ AreD K H ds r from h)
    obtain ⟨v', e1, h3⟩ := AreD.get (i := i) h2 (by simpa using e)
    exact ⟨v', by simpa using e1, h3⟩
section
variable {X : Cx} {pins : List (Addr × Obj)} {σ : St} {H : Hp} {s : Shared}
theorem Inv.not_both (I : Inv X pins σ H s) {a : Addr} {xs ys : List V} (h : SqL X.K H a xs) (h' : SqT X.K H a ys) : False := by
  obtain ⟨its, r, ⟨o, n, e, c, _⟩, _⟩ := I.list h
  obtain ⟨its', r', ⟨o', e', c', _⟩, _⟩ := I.tuple h'
  rw [e] at e'; cases e'
  rw [c] at c'
  injection c' with c''
  exact absurd c'' (by decide)
mutual
theorem IsD.inj (I : Inv X pins σ H s) : ∀ (d e : D) (v : V), IsD X.K H d v → IsD X.K H e v → d = e
  | .non, e, v, h, h' => by
    have q : v = .non := h
    subst q
    cases e with
    | non => rfl
    | tup _ => obtain ⟨_, _, z, _⟩ := h'; cases z
    | lst _ => obtain ⟨_, _, z, _⟩ := h'; cases z
    | _ => cases (show V.non = _ from h')
  | .bl b, e, v, h, h' => by
    have q : v = .bl b := h
    subst q
    cases e with
    | bl c => cases (show V.bl b = V.bl c from h'); rfl
    | tup _ => obtain ⟨_, _, z, _⟩ := h'; cases z
    | lst _ => obtain ⟨_, _, z, _⟩ := h'; cases z
    | _ => cases (show V.bl b = _ from h')
  | .int b, e, v, h, h' => by
    have q : v = .int b := h
    subst q
    cases e with
    | int c => cases (show V.int b = V.int c from h'); rfl
    | tup _ => obtain ⟨_, _, z, _⟩ := h'; cases z
    | lst _ => obtain ⟨_, _, z, _⟩ := h'; cases z
    | _ => cases (show V.int b = _ from h')
  | .str b, e, v, h, h' => by
    have q : v = .str b := h
    subst q
    cases e with
    | str c => cases (show V.str b = V.str c from h'); rfl
    | tup _ => obtain ⟨_, _, z, _⟩ := h'; cases z
    | lst _ => obtain ⟨_, _, z, _⟩ := h'; cases z
    | _ => cases (show V.str b = _ from h')
  | .tup ds, e, v, h, h' => by
    obtain ⟨a, vs, rfl, q, ar⟩ := (show ∃ a vs, v = .ref a ∧ SqT X.K H a vs ∧ AreD X.K H ds vs from h)
    cases e with
    | tup es =>
      obtain ⟨a', ws, z, q', ar'⟩ := (show ∃ a' vs, V.ref a = .ref a' ∧ SqT X.K H a' vs ∧ AreD X.K H es vs from h')
      cases z
      have e := I.tuple_inj q q'
      subst e
      rw [AreD.inj I ds es vs ar ar']
    | lst es =>
      obtain ⟨a', ws, z, q', ar'⟩ := (show ∃ a' vs, V.ref a = .ref a' ∧ SqL X.K H a' vs ∧ AreD X.K H es vs from h')
      cases z
      exact (I.not_both q' q).elim
    | non => cases (show V.ref a = _ from h')
    | bl _ => cases (show V.ref a = _ from h')
    | int _ => cases (show V.ref a = _ from h')
    | str _ => cases (show V.ref a = _ from h')
  | .lst ds, e, v, h, h' => by
    obtain ⟨a, vs, rfl, q, ar⟩ := (show ∃ a vs, v = .ref a ∧ SqL X.K H a vs ∧ AreD X.K H ds vs from h)
    cases e with
    | lst es =>
      obtain ⟨a', ws, z, q', ar'⟩ := (show ∃ a' vs, V.ref a = .ref a' ∧ SqL X.K H a' vs ∧ AreD X.K H es vs from h')
      cases z
      have e := I.list_inj q q'
      subst e
      rw [AreD.inj I ds es vs ar ar']
    | tup es =>
      obtain ⟨a', ws, z, q', ar'⟩ := (show ∃ a' vs, V.ref a = .ref a' ∧ SqT X.K H a' vs ∧ AreD X.K H es vs from h')
      cases z
      exact (I.not_both q q').elim
    | non => cases (show V.ref a = _ from h')
    | bl _ => cases (show V.ref a = _ from h')
    | int _ => cases (show V.ref a = _ from h')
    | str _ => cases (show V.ref a = _ from h')
theorem AreD.inj (I : Inv X pins σ H s) : ∀ (ds es : List D) (vs : List V), AreD X.K H ds vs → AreD X.K H es vs → ds = es
  | [], es, vs, h, h' => by
    have q : vs = [] := h
    subst q
    cases es with
    | nil => rfl
    | cons e es => obtain ⟨_, _, z, _⟩ := h'; cases z
  | d :: ds, es, vs, h, h' => by
    obtain ⟨v, r, rfl, h1, h2⟩ := (show ∃ v r, vs = v :: r ∧ IsD X.K H d v ∧ AreD X.K H ds r from h)
    cases es with
    | nil => cases (show v :: r = [] from h')
    | cons e es =>
      obtain ⟨v', r', z, h1', h2'⟩ := (show ∃ v' r', v :: r = v' :: r' ∧ IsD X.K H e v' ∧ AreD X.K H es r' from h')
      cases z
      rw [IsD.inj I d e v h1 h1', AreD.inj I ds es r h2 h2']
end
def flD : D → Option V
  | .non => some .non
  | .bl b => some (.bl b)
  | .int i => some (.int i)
  | .str x => some (.str x)
  | _ => none
theorem IsD.flat {K : PySem.W.Frag} {d : D} {x v : V} (e : flD d = some x) (h : IsD K H d v) : v = x ∧ flatV x = true := by
  cases d with
  | non => cases e; exact ⟨h, rfl⟩
  | bl b => cases e; exact ⟨h, rfl⟩
  | int i => cases e; exact ⟨h, rfl⟩
  | str q => cases e; exact ⟨h, rfl⟩
  | tup q => cases e
  | lst q => cases e
theorem rel_getElem {xs : List V} {us : List Value} (r : Vals xs us) {j : Nat} (h : j < us.length) {x : V} (e : xs[j]? = some x) : RelV x us[j] := by
  obtain ⟨u, e1, q⟩ := r.get e
  rw [List.getElem?_eq_getElem h] at e1
  cases e1
  exact q
def EqIn (A : Around) (s : Shared) (K : PySem.W.Frag) (H : Hp) (ds : List D) : Prop := ∀ d ∈ ds, ∀ (e : D) (x y : V) (u v : Value), IsD K H d x → IsD K H e y → RelV x u → RelV y v → SeqAt.EqAt A s u v (eqD d e)
theorem EqIn.at {A : Around} {K : PySem.W.Frag} {ds es : List D} {vs vs' : List V} {its its' : List Value} (E : EqIn A s K H ds) (ar : AreD K H ds vs) (ar' : AreD K H es vs') (r : Vals vs its) (r' : Vals vs' its') {j : Nat} (h1 : j < its.toArray.size) (h2 : j < its'.toArray.size) (j1 : j < ds.length) (j2 : j < es.length) :
    SeqAt.EqAt A s its.toArray[j] its'.toArray[j] (eqD (ds.getD j .non) (es.getD j .non)) := by
  obtain ⟨x1, g1, i1⟩ := ar.get (List.getElem?_eq_getElem j1)
  obtain ⟨y1, g2, i2⟩ := ar'.get (List.getElem?_eq_getElem j2)
  have d1 : ds.getD j .non = ds[j] := by simp [j1]
  have d2 : es.getD j .non = es[j] := by simp [j2]
  rw [d1, d2]
  exact E _ (List.getElem_mem j1) _ x1 y1 _ _ i1 i2 (rel_getElem r (by simpa using h1) g1) (rel_getElem r' (by simpa using h2) g2)
end
end L2
set_option Elab.async false
set_option linter.all false
set_option maxRecDepth 100000
namespace L2
open PySem PySem.Spec PyProof.Rows
theorem rcEq_V {A : Around} {s : Shared} {y x : V} {u v : Value} (ry : RelV y u) (rx : RelV x v) (fy : flatV y = true) (fx : flatV x = true) : SeqAt.RcAt A s u v ((eqV y x)) := by
  cases y with
  | non =>
    cases ry
    cases x with
    | non => cases rx; exact SeqAt.RcAt.none_none
    | bl b => cases rx; exact SeqAt.RcAt.none_bool b
    | int b => obtain ⟨t, rfl⟩ := rx; exact SeqAt.RcAt.none_int b t
    | str b => obtain ⟨t, rfl⟩ := rx; exact SeqAt.RcAt.none_str b t
    | _ => exact absurd (show false = true from fx) Bool.false_ne_true
  | bl a =>
    cases ry
    cases x with
    | non => cases rx; exact SeqAt.RcAt.bool_none a
    | bl b => cases rx; exact SeqAt.RcAt.bool_bool a b
    | int b => obtain ⟨t, rfl⟩ := rx; exact SeqAt.RcAt.bool_int a b t
    | str b => obtain ⟨t, rfl⟩ := rx; exact SeqAt.RcAt.bool_str a b t
    | _ => exact absurd (show false = true from fx) Bool.false_ne_true
  | int a =>
    obtain ⟨t', rfl⟩ := ry
    cases x with
    | non => cases rx; exact SeqAt.RcAt.int_none a t'
    | bl b => cases rx; exact SeqAt.RcAt.int_bool a t' b
    | int b => obtain ⟨t, rfl⟩ := rx; exact SeqAt.RcAt.int_int a t' b t
    | str b => obtain ⟨t, rfl⟩ := rx; exact SeqAt.RcAt.int_str a t' b t
    | _ => exact absurd (show false = true from fx) Bool.false_ne_true
  | str a =>
    obtain ⟨t', rfl⟩ := ry
    cases x with
    | non => cases rx; exact SeqAt.RcAt.str_none a t'
    | bl b => cases rx; exact SeqAt.RcAt.str_bool a t' b
    | int b => obtain ⟨t, rfl⟩ := rx; exact SeqAt.RcAt.str_int a t' b t
    | str b => obtain ⟨t, rfl⟩ := rx; exact SeqAt.RcAt.str_str a t' b t
    | _ => exact absurd (show false = true from fx) Bool.false_ne_true
  | _ => exact absurd (show false = true from fy) Bool.false_ne_true
section
variable {X : Cx}
end
end L2
set_option Elab.async false
set_option linter.all false
set_option maxRecDepth 100000
namespace L2
open PySem PySem.Spec PyProof.Rows
abbrev noE : Value → Shared → Prop := fun _ _ => False
def testsOf (ifs : List Expr) (env : Env) : Sem Bool :=
  forIn ifs true fun c r => if r = true then (isTrue c env (eval c env) >>= fun b => pure (ForInStep.yield b)) else pure (ForInStep.yield r)
section
variable (prog : Program) (w : World) (A : Around) (tg elt : Expr) (ifs : List Expr) (env : Env) (it acc : Value)
def TurnEnd (nxt : Shared → Prop) (ok : Bool) (s : Shared) : Prop :=
  if ok = true then wpAny (model prog w) A (eval elt env) (fun y s1 => wpAny (model prog w) A (call (.builtin "list.append") [acc, y]) (fun _ s2 => nxt s2) noE s1) noE s else nxt s
def TurnGo (nxt : Shared → Prop) (v : Value) (s : Shared) : Prop :=
  wpAny (model prog w) A (letOwnedTupleGo tg it v) (fun _ s1 => wpAny (model prog w) A (assign tg env v) (fun _ s2 => wpAny (model prog w) A (testsOf ifs env) (TurnEnd prog w A elt env acc nxt) noE s2) noE s1) noE s
end
theorem compLoop_gen {prog : Program} {w : World} {A : Around} {R : Result → Shared → Prop} {s : Shared} {elt tg iter : Expr} {ifs : List Expr} {scope : Scope} {pos : Pos} {it acc : Value} {env : Env} (W : Nat → Shared → Prop)
    (turn : ∀ m s1, W m s1 → wpAny (model prog w) A (pyNext it) (fun r s2 => r.elim (R (.ok .next) s2) fun v => TurnGo prog w A tg elt ifs env it acc (fun s3 => ∃ m', m' < m ∧ W m' s3) v s2) noE s1)
    (m : Nat) (start : W m s) : codeAny (model prog w) A (.compLoop (.ListComp elt [⟨tg, iter, ifs, 0⟩] scope pos) 0 it acc env) R s := by
  refine codeAny_loop rfl W (fun k s1 hw => ?_) m start
  refine wpAny_noted (env := env) (m := compTurn (.ListComp elt [⟨tg, iter, ifs, 0⟩] scope pos) 0 it acc env) ?_
  rw [compTurn_list]
  refine wpAny_bind (wpAny_standAt (wpAny_bind (wpAny_mono (turn k s1 hw) (fun r s2 q => ?_) fun _ _ z => z.elim)))
  cases r with
  | none => exact wpAny_pure q
  | some v =>
    have q : TurnGo prog w A tg elt ifs env it acc (fun s3 => ∃ m', m' < k ∧ W m' s3) v s2 := q
    refine wpAny_bind (wpAny_mono q (fun _ s3 q3 => wpAny_bind (wpAny_mono q3 (fun _ s4 q4 => wpAny_bind (wpAny_mono q4 (fun ok s5 q5 => ?_) fun _ _ z => z.elim)) fun _ _ z => z.elim)) fun _ _ z => z.elim)
    cases ok with
    | false => exact wpAny_pure ⟨rfl, q5⟩
    | true => exact wpAny_bind (wpAny_bind (wpAny_mono q5 (fun y s6 q6 => wpAny_bind (wpAny_mono q6 (fun _ s7 q7 => wpAny_pure (wpAny_pure ⟨rfl, q7⟩)) fun _ _ z => z.elim)) fun _ _ z => z.elim))
def closOf (env : Env) : List (Str × NameKind) → List (Str × Addr) → List (Str × Addr)
  | [], cs => cs
  | (n, k) :: r, cs => closOf env r (if k == .free then (n, (env.cells.lookup n).getD 0) :: cs else cs)
def cxComp (X : Cx) (scope : Scope) (N : List Str) (fp : List Addr) (s : Shared) (H : Hp) : Cx :=
  { X with N := N, s₀ := s, H₀ := H, env := compEnvC scope (closOf X.env scope.names []) s.heap.objs.size X.env, outer := X.stack, stack := X.stack, ex := fp, fn := fun _ => false, pn := [], xe := noE }
structure CompOk (X : Cx) (scope : Scope) (N : List Str) (fr : List (Option Nat)) : Prop where
  clos : closureFor scope X.env = pure (closOf X.env scope.names [])
  kind : scope.kind = .function
  nocell : ∀ y ∈ scope.names, y.2 ≠ .cell
  names : ∀ y ∈ scope.names, y.2 = .local → scope.names.lookup y.1 = some .local
  cells : ∀ x c, (closOf X.env scope.names []).lookup x = some c → X.env.cells.lookup x = some c
  has : ∀ x, ((relabel scope X.env).names.lookup x = some .cell ∨ (relabel scope X.env).names.lookup x = some .free) → ∃ c, (closOf X.env scope.names []).lookup x = some c
  len : fr.length = N.length
  fr : ∀ (i j : Nat), fr[i]? = some (some j) → ∃ x, N[i]? = some x ∧ X.N[j]? = some x ∧ Vis X.env.scope x ∧ ¬ X.env.kindOf x = some .local ∧ ((relabel scope X.env).names.lookup x = some .cell ∨ (relabel scope X.env).names.lookup x = some .free)
def frees (fr : List (Option Nat)) (σ : St) : St := fr.map fun o => o.bind fun i => (σ[i]?).bind id
theorem frees_length (fr : List (Option Nat)) (σ : St) : (frees fr σ).length = fr.length := List.length_map _
theorem frees_get {fr : List (Option Nat)} {σ : St} {i : Nat} {v : V} (h : (frees fr σ)[i]? = some (some v)) : ∃ j, fr[i]? = some (some j) ∧ σ[j]? = some (some v) := by
  unfold frees at h
  rw [List.getElem?_map] at h
  cases e : fr[i]? with
  | none => rw [e] at h; cases h
  | some o =>
    rw [e] at h
    cases o with
    | none => cases h
    | some j =>
      refine ⟨j, rfl, ?_⟩
      have h' : (σ[j]?).bind id = some v := Option.some.inj h
      cases e2 : σ[j]? with
      | none => rw [e2] at h'; cases h'
      | some o2 => rw [e2] at h'; exact congrArg some h'
theorem mem_relabel {scope : Scope} {env : Env} {x : Str} {k : NameKind} (h : (relabel scope env).names.lookup x = some k) : ∃ k0, (x, k0) ∈ scope.names ∧ (k = k0 ∨ (k0 = .free ∧ k = .cell)) := by
  have hm := PySem.mem_of_lookup h
  obtain ⟨⟨n, k0⟩, h1, h2⟩ := List.mem_map.mp (show (x, k) ∈ scope.names.map _ from hm)
  dsimp only at h2
  split at h2
  · rename_i hc
    cases h2
    simp only [Bool.and_eq_true, beq_iff_eq] at hc
    exact ⟨k0, h1, .inr ⟨hc.1.1, rfl⟩⟩
  · cases h2
    exact ⟨k, h1, .inl rfl⟩
def scOk (outer scope : Scope) : Bool :=
  decide (scope.kind = .function) && scope.names.all fun y => decide (y.2 ≠ .cell) && (decide (y.2 ≠ .local) || decide (scope.names.lookup y.1 = some .local)) &&
    (decide (y.2 ≠ .free) || decide (outer.names.lookup y.1 = some .cell) || decide (outer.names.lookup y.1 = some .free))
def frOk (NX : List Str) (names : List (Str × NameKind)) : List Str → List (Option Nat) → Bool
  | [], [] => true
  | _ :: N, none :: fr => frOk NX names N fr
  | x :: N, some j :: fr => decide (NX[j]? = some x) && decide (names.lookup x = some .free) && frOk NX names N fr
  | _, _ => false
theorem frOk_len {NX : List Str} {names : List (Str × NameKind)} : ∀ {N : List Str} {fr : List (Option Nat)}, frOk NX names N fr = true → fr.length = N.length
  | [], [], _ => rfl
  | [], _ :: _, h => by simp [frOk] at h
  | _ :: _, [], h => by simp [frOk] at h
  | x :: N, none :: fr, h => by
    simp only [frOk] at h
    simp only [List.length_cons, frOk_len h]
  | x :: N, some j :: fr, h => by
    simp only [frOk, Bool.and_eq_true] at h
    simp only [List.length_cons, frOk_len h.2]
theorem frOk_get {NX : List Str} {names : List (Str × NameKind)} : ∀ {N : List Str} {fr : List (Option Nat)} {i j : Nat}, frOk NX names N fr = true → fr[i]? = some (some j) → ∃ x, N[i]? = some x ∧ NX[j]? = some x ∧ names.lookup x = some .free
  | [], [], _, _, _, e => by simp at e
  | [], _ :: _, _, _, h, _ => by simp [frOk] at h
  | _ :: _, [], _, _, h, _ => by simp [frOk] at h
  | x :: N, none :: fr, 0, _, _, e => by simp at e
  | x :: N, none :: fr, i + 1, j, h, e => by
    simp only [frOk] at h
    obtain ⟨y, h1, h2⟩ := frOk_get (i := i) h (by simpa using e)
    exact ⟨y, by simpa using h1, h2⟩
  | x :: N, some k :: fr, 0, j, h, e => by
    simp only [frOk, Bool.and_eq_true, decide_eq_true_eq] at h
    simp at e
    subst e
    exact ⟨x, rfl, h.1.1, h.1.2⟩
  | x :: N, some k :: fr, i + 1, j, h, e => by
    simp only [frOk, Bool.and_eq_true] at h
    obtain ⟨y, h1, h2⟩ := frOk_get (i := i) h.2 (by simpa using e)
    exact ⟨y, by simpa using h1, h2⟩
theorem lookup_map_kind {f : Str → NameKind → NameKind} (x : Str) : ∀ names : List (Str × NameKind), (names.map fun p => (p.1, f p.1 p.2)).lookup x = (names.lookup x).map (f x)
  | [] => rfl
  | (n, k) :: r => by
    have ih := lookup_map_kind (f := f) x r
    cases e : x == n with
    | false =>
      simp only [List.map_cons, List.lookup_cons, e]
      exact ih
    | true =>
      have e' : x = n := by simpa using e
      simp only [List.map_cons, List.lookup_cons, e, Option.map_some]
      rw [e']
theorem relabel_names (scope : Scope) (env : Env) : (relabel scope env).names = scope.names.map fun p => (p.1, if (p.2 == NameKind.free && env.scope.kind == .function && env.kindOf p.1 == some .cell) = true then NameKind.cell else p.2) := by
  show scope.names.map _ = _
  refine List.map_congr_left fun p _ => ?_
  obtain ⟨n, k⟩ := p
  dsimp only
  split <;> rfl
theorem lookup_relabel_free {scope : Scope} {env : Env} {x : Str} (h : scope.names.lookup x = some .free) : (relabel scope env).names.lookup x = some .cell ∨ (relabel scope env).names.lookup x = some .free := by
  rw [relabel_names, lookup_map_kind (f := fun n k => if (k == NameKind.free && env.scope.kind == .function && env.kindOf n == some .cell) = true then NameKind.cell else k), h]
  dsimp only [Option.map_some]
  split
  · exact .inl rfl
  · exact .inr rfl
theorem closOf_mem {env : Env} : ∀ {names : List (Str × NameKind)} {cs : List (Str × Addr)}, (∀ y ∈ names, y.2 = .free → ∃ c, env.cells.lookup y.1 = some c) → (∀ p ∈ cs, env.cells.lookup p.1 = some p.2) → ∀ p ∈ closOf env names cs, env.cells.lookup p.1 = some p.2
  | [], cs, _, hc, p, hp => hc p hp
  | (n, k) :: r, cs, hn, hc, p, hp => by
    simp only [closOf] at hp
    refine closOf_mem (fun y hy => hn y (List.mem_cons_of_mem _ hy)) (fun q hq => ?_) p hp
    split at hq
    · rename_i hk
      rcases List.mem_cons.mp hq with e | hq
      · obtain ⟨c, hc'⟩ := hn (n, k) List.mem_cons_self (by simpa using hk)
        subst e
        dsimp only at hc' ⊢
        rw [hc']
        rfl
      · exact hc q hq
    · exact hc q hq
theorem closOf_old {env : Env} : ∀ {names : List (Str × NameKind)} {cs : List (Str × Addr)} {p : Str × Addr}, p ∈ cs → p ∈ closOf env names cs
  | [], _, _, h => h
  | (n, k) :: r, cs, p, h => by
    simp only [closOf]
    refine closOf_old ?_
    split
    · exact List.mem_cons_of_mem _ h
    · exact h
theorem closOf_has {env : Env} : ∀ {names : List (Str × NameKind)} {cs : List (Str × Addr)} {x : Str}, (x, NameKind.free) ∈ names → ∃ c, (x, c) ∈ closOf env names cs
  | (n, k) :: r, cs, x, h => by
    rcases List.mem_cons.mp h with e | h
    · cases e
      exact ⟨_, by simp only [closOf, beq_self_eq_true, if_true]; exact closOf_old List.mem_cons_self⟩
    · simp only [closOf]
      exact closOf_has h
theorem lookup_of_mem {β : Type} : ∀ {l : List (Str × β)} {x : Str} {b : β}, (x, b) ∈ l → ∃ c, l.lookup x = some c
  | (n, c) :: r, x, b, h => by
    cases hx : x == n with
    | true => exact ⟨c, by simp only [List.lookup_cons, hx]⟩
    | false =>
      rcases List.mem_cons.mp h with e | h
      · cases e
        simp at hx
      · obtain ⟨d, hd⟩ := lookup_of_mem h
        exact ⟨d, by simp only [List.lookup_cons, hx]; exact hd⟩
theorem closureFor_eq {scope : Scope} {env : Env} (h : ∀ y ∈ scope.names, y.2 = .free → ∃ c, env.cells.lookup y.1 = some c) : closureFor scope env = pure (closOf env scope.names []) := by
  have go : ∀ (names : List (Str × NameKind)) (cs : List (Str × Addr)), (∀ y ∈ names, y.2 = .free → ∃ c, env.cells.lookup y.1 = some c) →
      (forIn names cs fun x cs => (do
        if x.2 == NameKind.free then pure (ForInStep.yield ((x.1, ← cellOf env x.1) :: cs)) else pure (ForInStep.yield cs) : Sem (ForInStep (List (Str × Addr))))) = pure (closOf env names cs) := by
    intro names
    induction names with
    | nil => intro cs _; rfl
    | cons y r ih =>
      intro cs hn
      obtain ⟨n, k⟩ := y
      have hr : ∀ y ∈ r, y.2 = .free → ∃ c, env.cells.lookup y.1 = some c := fun y hy => hn y (List.mem_cons_of_mem _ hy)
      rw [List.forIn_cons]
      by_cases hk : k = .free
      · subst hk
        obtain ⟨c, hc⟩ := hn (n, .free) List.mem_cons_self rfl
        have ec : cellOf env n = pure c := by
          unfold cellOf
          dsimp only at hc
          rw [hc]
        simp only [beq_self_eq_true, if_true, ec, pure_bind, closOf]
        rw [ih _ hr]
        dsimp only at hc
        rw [hc]
        rfl
      · have hb : (k == NameKind.free) = false := by simpa using hk
        simp only [hb, Bool.false_eq_true, if_false, pure_bind, closOf]
        exact ih _ hr
  have := go scope.names [] h
  unfold closureFor
  simp only [bind_pure_comp] at this ⊢
  first
    | exact this
    | (simpa using this)
structure CompFr (X : Cx) (NX : List Str) (outer scope : Scope) (N : List Str) (fr : List (Option Nat)) : Prop where
  nx : X.N = NX
  sc : X.env.scope.names = outer.names
  ok1 : scOk outer scope = true
  ok2 : frOk NX scope.names N fr = true
theorem CompFr.ok {X : Cx} {NX : List Str} {outer scope : Scope} {N : List Str} {fr : List (Option Nat)} (C : CompFr X NX outer scope N fr) (ok : X.Ok) : CompOk X scope N fr := by
  have h1 := C.ok1
  unfold scOk at h1
  simp only [Bool.and_eq_true, decide_eq_true_eq, List.all_eq_true, Bool.or_eq_true] at h1
  obtain ⟨hk, hn⟩ := h1
  have kof : ∀ x, X.env.kindOf x = outer.names.lookup x := fun x => by
    show X.env.scope.names.lookup x = _
    rw [C.sc]
  have hfree : ∀ y ∈ scope.names, y.2 = .free → X.env.kindOf y.1 = some .cell ∨ X.env.kindOf y.1 = some .free := fun y hy e => by
    rcases (hn y hy).2 with (z | z) | z
    · exact absurd e z
    · exact .inl ((kof _).trans z)
    · exact .inr ((kof _).trans z)
  have hcell : ∀ y ∈ scope.names, y.2 = .free → ∃ c, X.env.cells.lookup y.1 = some c := fun y hy e => ok.has y.1 (hfree y hy e)
  refine ⟨closureFor_eq hcell, hk, fun y hy => (hn y hy).1.1, fun y hy e => ?_, fun x c e => ?_, fun x h => ?_, frOk_len C.ok2, fun i j e => ?_⟩
  · rcases (hn y hy).1.2 with z | z
    · exact absurd e z
    · exact z
  · exact closOf_mem hcell (fun p hp => by cases hp) (x, c) (PySem.mem_of_lookup e)
  · have hm : (x, NameKind.free) ∈ scope.names := by
      rcases h with h | h
      · obtain ⟨k0, h1, h2⟩ := mem_relabel h
        rcases h2 with h2 | ⟨h2, _⟩
        · exact absurd h2.symm (hn _ h1).1.1
        · subst h2; exact h1
      · obtain ⟨k0, h1, h2⟩ := mem_relabel h
        rcases h2 with h2 | ⟨_, h2⟩
        · subst h2; exact h1
        · cases h2
    obtain ⟨c, hc⟩ := closOf_has (env := X.env) (cs := []) hm
    exact lookup_of_mem hc
  · obtain ⟨x, q1, q2, q3⟩ := frOk_get C.ok2 e
    have hm := PySem.mem_of_lookup q3
    have hf := hfree (x, .free) hm rfl
    refine ⟨x, q1, by rw [C.nx]; exact q2, ?_, ?_, lookup_relabel_free q3⟩
    · exact .inr hf
    · intro z
      dsimp only at hf
      rw [z] at hf
      rcases hf with hf | hf <;> cases hf
section
variable {X : Cx} {scope : Scope} {N : List Str} {fr : List (Option Nat)} {pins : List (Addr × Obj)} {σ : St} {H : Hp} {s : Shared} {fp : List Addr}
theorem inv_comp (C : CompOk X scope N fr) (I : Inv X pins σ H s) (hf : ∀ b ∈ fp, FpOk X pins H b) (hob : ∀ b ∈ fp, ∃ o, s.heap.get? b = some o) {h1 : Heap} {tk : Nat}
    (hns : h1.Ns s.heap.objs.size fun _ => none) (hk : ∀ b o, s.heap.get? b = some o → h1.get? b = some o) :
    Inv (cxComp X scope N fp s H) [] (frees fr σ) H { s with heap := h1, toks := tk } := by
  have lt : ∀ b ∈ fp, b < s.heap.objs.size := fun b hb => let ⟨_, e⟩ := hob b hb; Heap.lt_size e
  have cellK : ∀ x c, (closOf X.env scope.names []).lookup x = some c → ∃ v, s.heap.IsCell c v := fun x c e => I.cell x c (C.cells x c e)
  have ck : ∀ c v, s.heap.IsCell c v → h1.IsCell c v := fun c v ⟨o, e, d⟩ => ⟨o, hk c o e, d⟩
  refine ⟨⟨I.ok.mod, C.kind, I.ok.glob, I.ok.blt, Nat.le_refl _, fun x y c e1 e2 => I.ok.inj x y c (C.cells x c e1) (C.cells y c e2), fun x h => C.has x h, fun x c h _ => absurd h Bool.false_ne_true, I.ok.hd, I.ok.frames, .inl rfl,
      fun b hb => ⟨Nat.ne_of_lt (lt b hb), fun x c e => (hf b hb).2.2.2.2.1 x c (C.cells x c e)⟩, I.bs, Nat.le_trans I.ok.bsz I.sz, fun b o e hb => ?_, fun b hb hb' => ?_, I.stack, I.stkFree⟩,
    rfl, I.bare, Un.kept hk, ⟨_, hns, fun i x v e1 e2 e3 => ?_⟩, fun x c e => ?_, I.hok.fresh (Nat.le_refl _), fun x c e => I.freeC x c (C.cells x c e), fun p hp => absurd (show p ∈ ([] : List (Addr × Obj)) from hp) (by simp), I.hok.kept hk, ?_⟩
  · rcases (hf b hb).2.2.2.1 with z | z
    · exact I.ok.noex b o e z
    · exact absurd (Nat.lt_of_lt_of_le (Heap.lt_size (I.ok.bs b o e).1) z) (Nat.lt_irrefl _)
  · rcases List.mem_cons.mp (I.stkSub b hb') with z | z
    · exact (hf b hb).2.1 z
    · exact (hf b hb).2.2.1 z
  · obtain ⟨j, q1, q2⟩ := frees_get e2
    obtain ⟨x', n1, n2, vis, nl, k⟩ := C.fr i j q1
    have ex : x = x' := Option.some.inj (e1.symm.trans n1)
    subst ex
    obtain ⟨m, hm, hl⟩ := I.loc
    obtain ⟨u, r, l⟩ := hl j x v n2 q2 vis
    refine ⟨u, r, ?_⟩
    rcases l with ⟨l1, _⟩ | ⟨_, c, l2, l3⟩
    · exact absurd l1 nl
    · obtain ⟨c', hc'⟩ := C.has x k
      have ec := C.cells x c' hc'
      rw [l2] at ec
      have ec' : c = c' := Option.some.inj ec
      subst ec'
      exact .inr ⟨k, c, hc', ck c _ l3⟩
  · obtain ⟨v, z⟩ := cellK x c e
    exact ⟨v, ck c v z⟩
  · show (frees fr σ).length = N.length
    rw [frees_length, C.len]
theorem inv_uncomp (I : Inv X pins σ H s) (hf : ∀ b ∈ fp, FpOk X pins H b) {σ' : St} {H' : Hp} {s' : Shared} (J : Inv (cxComp X scope N fp s H) [] σ' H' s') : Inv X pins σ H' s' :=
  I.call' (ch := fp) J.os J.base J.hok J.bare fun b hb => ⟨(hf b hb).2.2.2.1, (hf b hb).2.1, (hf b hb).2.2.2.2.1, (hf b hb).2.2.2.2.2⟩
end
def PTs (X : Cx) (ifs : List Expr) (t : TT) : Prop :=
  ∀ (pins : List (Addr × Obj)) (s : Shared) (σ : St) (H : Hp) (Q : Bool → Hp → Prop), Inv X pins σ H s → t σ H Q →
    wpAny (model X.prog X.w) X.A (testsOf ifs X.env) (TP X pins σ Q) X.xe s
def tAlways : TT := fun _ H Q => Q true H
theorem pts_nil {X : Cx} : PTs X [] tAlways := fun _ _ _ H _ I h => wpAny_tests_nil ⟨H, I, h⟩
theorem pts_one {X : Cx} {c : Expr} {t : TT} (h : PT X c t) : PTs X [c] t := fun pins s σ H Q I hw => wpAny_tests_one (h pins s σ H Q I hw)
def CompW (J : It) (g : TG) (tt : TT) (te : TE) (D : Addr) (W : Nat → Nat → List V → St → Hp → Prop) (fin : Hp → Prop) : Prop :=
  ∀ i m ys σ H, W i m ys σ H → H D = some (.lst ys) ∧ ((J.stop i H ∧ fin H) ∨ (J.go i H ∧ ∃ N : List V → St → Hp → Prop, (∀ ys' σ' H', N ys' σ' H' → ∃ m', m' < m ∧ W (i + 1) m' ys' σ' H') ∧
    ∀ x H', J.yld i H x H' → g x σ H' fun σ2 H2 => tt σ2 H2 fun ok H3 =>
      if ok = true then te σ2 H3 fun y H4 => H4 D = some (.lst ys) ∧ ys.length < sizeLine ∧ N (ys ++ [y]) σ2 (upd H4 D (.lst (ys ++ [y]))) else N ys σ2 H3))
abbrev DG := List Addr → Shared → Hp → TG
abbrev DT := List Addr → Shared → Hp → TT
abbrev DE := List Addr → Shared → Hp → TE
def tComp (wi : TI) (fr : List (Option Nat)) (g : DG) (tt : DT) (te : DE) : TE := fun σ H Q => wi σ H fun J H1 => ∀ D fp sx, H1 D = none →
  ∃ W : Nat → Nat → List V → St → Hp → Prop, (∃ m, W 0 m [] (frees fr σ) (upd H1 D (.lst []))) ∧ CompW J (g fp sx (upd H1 D (.lst []))) (tt fp sx (upd H1 D (.lst []))) (te fp sx (upd H1 D (.lst []))) D W (fun H => Q (.ref D) H)
section
variable {X : Cx} {scope : Scope} {N : List Str} {fr : List (Option Nat)} {tg elt iter : Expr} {ifs : List Expr} {pos : Pos} {wi : TI} {g : DG} {tt : DT} {te : DE}
theorem comp_run {pins : List (Addr × Obj)} {σ : St} {s2 : Shared} {it : Addr} {fp : List Addr} {tn : Nat → Heap → Prop} {J : It} {H2 : Hp} {RR : Value → Addr → Result → Shared → Prop} {E : Value → Shared → Prop}
    (hc : X.calm = true) (C : CompOk X scope N fr)
    (hg : ∀ fp s H, PG (cxComp X scope N fp s H) tg (g fp s H)) (ht : ∀ fp s H, PTs (cxComp X scope N fp s H) ifs (tt fp s H)) (he : ∀ fp s H, PE (cxComp X scope N fp s H) elt (te fp s H))
    (I2 : Inv X pins σ H2 s2) (T : Turn X.prog X.w X.K tg J fp it tn) (st2 : tn 0 s2.heap) (f2 : ∀ b ∈ fp, FpOk X pins H2 b) {fin : Addr → Hp → Prop}
    (hW : ∀ D fp sx, H2 D = none → ∃ W : Nat → Nat → List V → St → Hp → Prop, (∃ m, W 0 m [] (frees fr σ) (upd H2 D (.lst []))) ∧ CompW J (g fp sx (upd H2 D (.lst []))) (tt fp sx (upd H2 D (.lst []))) (te fp sx (upd H2 D (.lst []))) D W (fin D))
    (hend : ∀ D Cc s' σ' H' m, Inv X pins σ H' s' → H' Cc = none → Cc ≠ X.env.locals → Cc ∉ X.fs → X.s₀.heap.objs.size ≤ Cc → (∀ x c, X.env.cells.lookup x = some c → c ≠ Cc) → (∀ p ∈ X.pn ++ pins, p.1 ≠ Cc) → s'.heap.Ns Cc m → fin D H' →
      RR (.ref D) Cc (.ok σ') s') :
    wpAny (model X.prog X.w) X.A (newList []) (fun acc s₃ => wpAny (model X.prog X.w) X.A (newFunctionEnv scope X.env.globals (closOf X.env scope.names []) [] X.env.qual none .none (some X.env)) (fun cenv s₄ =>
      codeAny (model X.prog X.w) X.A (.compStart (.ListComp elt [⟨tg, iter, ifs, 0⟩] scope pos) 0 (.ref it) acc { cenv with scope := relabel scope X.env }) (RR acc cenv.locals) s₄) E s₃) E s2 := by
  refine wpAny_newObj_type (wpAny_newFunctionEnv C.nocell (by intro y hy; simp at hy) (fun h₁ hns₁ hsb₁ => ?_) C.kind)
  dsimp only at hns₁ hsb₁ ⊢
  have I3 : Inv X pins σ (upd H2 s2.heap.objs.size (.lst [])) { s2 with heap := s2.heap.push { cls := .type "list", dict := none, data := .seq ([] : List Value).toArray } } :=
    I2.laid (t' := s2.toks) (fun b o e => Heap.get?_push_of_some _ e) (Nat.le_refl _) ⟨Nat.zero_le _, [], 0, .nil, Heap.get?_push_size _ rfl⟩
  have hD : H2 s2.heap.objs.size = none := I2.hok.fresh (Nat.le_refl _)
  obtain ⟨W, ⟨m0, w0⟩, turn⟩ := hW _ fp { s2 with heap := s2.heap.push { cls := .type "list", dict := none, data := .seq ([] : List Value).toArray } } hD
  generalize hDD : s2.heap.objs.size = D at *
  generalize hS3 : ({ s2 with heap := s2.heap.push { cls := .type "list", dict := none, data := .seq ([] : List Value).toArray } } : Shared) = S3 at *
  have hS3h : s2.heap.push { cls := .type "list", dict := none, data := .seq ([] : List Value).toArray } = S3.heap := by rw [← hS3]
  rw [hS3h] at hns₁ hsb₁ ⊢
  have obj2 := T.obj 0 _ st2
  have nD : ∀ b ∈ fp, b ≠ D := fun b hb z => by
    obtain ⟨o, e, _⟩ := obj2 b hb
    have q := Heap.lt_size e
    rw [hDD, z] at q
    exact absurd q (Nat.lt_irrefl _)
  have f3 : ∀ b ∈ fp, FpOk X pins (upd H2 D (.lst [])) b := fun b hb => ⟨by rw [upd_ne (nD b hb)]; exact (f2 b hb).1, (f2 b hb).2⟩
  have ob3 : ∀ b ∈ fp, ∃ o, S3.heap.get? b = some o := fun b hb => by
    obtain ⟨o, e, _⟩ := obj2 b hb
    exact ⟨o, by rw [← hS3h]; exact Heap.get?_push_of_some _ e⟩
  have st3 : tn 0 S3.heap := T.keep _ _ _ st2 fun b hb o e => by rw [← hS3h]; exact Heap.get?_push_of_some _ e
  have hk1 : ∀ b o, S3.heap.get? b = some o → h₁.get? b = some o := fun b o e => hsb₁.extBut b o (Nat.ne_of_lt (Heap.lt_size e)) (Heap.get?_push_of_some _ e)
  have J1 : Inv (cxComp X scope N fp S3 (upd H2 D (.lst []))) [] (frees fr σ) (upd H2 D (.lst [])) { S3 with heap := h₁, toks := s2.toks + ([] : List (Str × Value)).length } := inv_comp C I3 f3 ob3 hns₁ hk1
  have st4 : tn 0 h₁ := T.keep _ _ _ st3 fun b hb o e => hk1 b o e
  have es : ({ s2 with heap := h₁, toks := s2.toks + ([] : List (Str × Value)).length } : Shared) = { S3 with heap := h₁, toks := s2.toks + ([] : List (Str × Value)).length } := by rw [← hS3]
  have FpC : ∀ {H' : Hp}, (∀ b ∈ fp, H' b = none) → ∀ b ∈ fp, FpOk (cxComp X scope N fp S3 (upd H2 D (.lst []))) [] H' b := fun hn b hb =>
    ⟨hn b hb, (J1.ok.exf b hb).1, J1.ok.exfs b hb, .inl hb, (J1.ok.exf b hb).2, fun p hp => absurd (show p ∈ ([] : List (Addr × Obj)) from hp) (by simp)⟩
  have loop : codeAny (model X.prog X.w) X.A (.compLoop (.ListComp elt [⟨tg, iter, ifs, 0⟩] scope pos) 0 (.ref it) (.ref D) (cxComp X scope N fp S3 (upd H2 D (.lst []))).env) (RR (.ref D) S3.heap.objs.size)
      { S3 with heap := h₁, toks := s2.toks + ([] : List (Str × Value)).length } := by
    refine compLoop_gen (fun n s' => ∃ i ys σ' H', Inv (cxComp X scope N fp S3 (upd H2 D (.lst []))) [] σ' H' s' ∧ tn i s'.heap ∧ (∀ b ∈ fp, H' b = none) ∧ W i n ys σ' H') ?_ m0 ⟨0, [], _, _, J1, st4, fun b hb => (f3 b hb).1, w0⟩
    rintro n s5 ⟨i, ys, σ5, H5, J5, st5, fr5, w5⟩
    obtain ⟨hDl, alt⟩ := turn i n ys σ5 H5 w5
    rcases alt with ⟨stop, fi⟩ | ⟨go, NN, hNN, step⟩
    · refine thn (T.done (cxComp X scope N fp S3 (upd H2 D (.lst []))) rfl rfl rfl hc i [] s5 σ5 H5 noE J5 (FpC fr5) st5 stop) fun r s6 ⟨hr, J6⟩ => ?_
      subst hr
      show RR (.ref D) S3.heap.objs.size (.ok .next) s6
      have I6 := inv_uncomp I3 f3 J6
      obtain ⟨mm, hmm, _⟩ := J6.loc
      refine hend D _ s6 _ H5 mm I6 J6.free ?_ ?_ ?_ ?_ ?_ hmm fi
      · exact Nat.ne_of_gt I3.lt
      · exact I3.nofs (Nat.le_refl _)
      · exact I3.sz
      · intro x c e z
        obtain ⟨v, q⟩ := I3.cell x c e
        exact absurd q.lt (by rw [z]; exact Nat.lt_irrefl _)
      · intro p hp z
        exact absurd (Heap.lt_size (I3.pin p hp).1) (by rw [z]; exact Nat.lt_irrefl _)
    · refine thn (T.item (cxComp X scope N fp S3 (upd H2 D (.lst []))) rfl rfl rfl hc i [] s5 σ5 H5 noE J5 (FpC fr5) st5 go) fun r s6 ⟨u, hr, h6⟩ => ?_
      subst hr
      refine thn (Q := _) h6 fun _ s7 ⟨x, H7, J7, r7, y7, st7, fr7⟩ => ?_
      have J7' := J7.pinned (FpC fr7) (T.obj _ _ st7)
      have back : ∀ {σ9 : St} {H9 : Hp} {s9 : Shared}, Inv (cxComp X scope N fp S3 (upd H2 D (.lst []))) ([] ++ pinsAt fp s7.heap) σ9 H9 s9 → tn (i + 1) s9.heap ∧ ∀ b ∈ fp, H9 b = none := fun {σ9 H9 s9} J9 =>
        ⟨T.keep _ _ _ st7 fun b hb o e => (J9.pin (b, o) (List.mem_append_right _ (List.mem_append_right _ (mem_pinsAt hb e)))).1, fun b hb => by
          obtain ⟨o, e, d⟩ := T.obj _ _ st7 b hb
          exact (J9.pin (b, o) (List.mem_append_right _ (List.mem_append_right _ (mem_pinsAt hb e)))).2.1⟩
      refine thn (hg fp S3 _ _ s7 σ5 H7 x u _ J7' r7 (step x H7 y7)) fun _ s8 ⟨σ8, H8, J8, q8⟩ => ?_
      refine thn (ht fp S3 _ _ s8 σ8 H8 _ J8 q8) fun ok s9 ⟨H9, J9, q9⟩ => ?_
      cases ok with
      | false =>
        rw [if_neg Bool.false_ne_true] at q9
        unfold TurnEnd
        rw [if_neg Bool.false_ne_true]
        obtain ⟨m', hm, w9⟩ := hNN _ _ _ q9
        exact ⟨m', hm, i + 1, ys, σ8, H9, J9.unpinned, (back J9).1, (back J9).2, w9⟩
      | true =>
        rw [if_pos rfl] at q9
        unfold TurnEnd
        rw [if_pos rfl]
        refine thn (he fp S3 _ _ s9 σ8 H9 _ J9 q9) fun yv s10 ⟨y, H10, J10, r10, hD10, hz, n10⟩ => ?_
        obtain ⟨m', hm, w10⟩ := hNN _ _ _ n10
        refine thn (mt_append (X := cxComp X scope N fp S3 (upd H2 D (.lst []))) _ s10 σ8 H10 (.ref D) [y] (.ref D) [yv] (fun _ H' => H' = upd H10 D (.lst (ys ++ [y]))) J10 rfl (.cons r10 .nil) ⟨D, ys, y, rfl, rfl, hD10, hz, rfl⟩) fun _ s11 ⟨v11, H11, J11, _, e11⟩ => ?_
        subst e11
        exact ⟨m', hm, i + 1, ys ++ [y], σ8, _, J11.unpinned, (back J11).1, (back J11).2, w10⟩
  rw [es]
  exact codeAny_compStart_list loop (T.self _ 0 _ _ _ st4 loop)
theorem pe_comp {NX : List Str} {outer : Scope} (hc : X.calm = true) (hi : PI X tg iter wi) (C : CompFr X NX outer scope N fr)
    (hg : ∀ fp s H, PG (cxComp X scope N fp s H) tg (g fp s H)) (ht : ∀ fp s H, PTs (cxComp X scope N fp s H) ifs (tt fp s H)) (he : ∀ fp s H, PE (cxComp X scope N fp s H) elt (te fp s H))
    (hs : ∀ x, foldedSetIterable iter X.env x = pure x := by intro _; rfl) : PE X (.ListComp elt [⟨tg, iter, ifs, 0⟩] scope pos) (tComp wi fr g tt te) := by
  intro pins s σ H Q I h
  have C := C.ok I.ok
  rw [eval_ListComp]
  refine wpAny_comprehension_free (use := none) rfl hs C.clos C.kind C.names (thn (hi pins s σ H _ I h) fun v s1 h1 => thn h1 fun itv s2 h2 => ?_)
  obtain ⟨it, fp, tn, J, H2, e, I2, T, st2, f2, hW⟩ := h2
  subst e
  refine comp_run (RR := fun acc Cc => compPost (model X.prog X.w) X.A X.xe none (EP X pins σ Q) acc Cc) hc C hg ht he I2 T st2 f2 hW ?_
  intro D Cc s' fl H' m I' f0 f1 f2' f3 f4 f5 hns fi
  refine ⟨m, hns, fun h' sb => ?_⟩
  exact ⟨.ref D, H', I'.turned (t' := s'.toks) (fun b o hb e => (sb.2 b hb).trans e) f0 f1 (.inr f3) f4 f5, rfl, fi⟩
theorem ps_setComp {NX : List Str} {outer : Scope} {i : Nat} {x : Str} {pos' pos2 : Pos} (hN : X.N.Nodup) (hix : X.N[i]? = some x) (hx : Loc X.env.scope x) (hc : X.calm = true) (hi : PI X tg iter wi) (C : CompFr X NX outer scope N fr)
    (hg : ∀ fp s H, PG (cxComp X scope N fp s H) tg (g fp s H)) (ht : ∀ fp s H, PTs (cxComp X scope N fp s H) ifs (tt fp s H)) (he : ∀ fp s H, PE (cxComp X scope N fp s H) elt (te fp s H))
    (hsw : swapsWith (.ListComp elt [⟨tg, iter, ifs, 0⟩] scope pos) (some (.Name x pos')) pos2.line X.env = pure true := by rfl)
    (hs : ∀ x, foldedSetIterable iter X.env x = pure x := by intro _; rfl) (hf : X.fn x = true ∨ X.env.scope.names.lookup x = some .local := by first | exact .inl rfl | exact .inr rfl | assumption) :
    PS X (.Assign [.Name x pos'] (.ListComp elt [⟨tg, iter, ifs, 0⟩] scope pos) pos2) (tAsg (tComp wi fr g tt te) (gName i)) := by
  intro pins s σ H Dd I h
  have C := C.ok I.ok
  rw [exec_Assign_Name_used _ _ _ _ hsw]
  refine wpAny_bind (wpAny_standAt (wpAny_bind ?_))
  show wpAny _ X.A (do let _ ← comprehension (.ListComp elt [⟨tg, iter, ifs, 0⟩] scope pos) scope X.env _ (newList []) false (eval iter X.env) (some (assign (.Name x pos') X.env))) _ _ s
  refine wpAny_bind (wpAny_mono (wpAny_comprehension_free (use := some (assign (.Name x pos') X.env)) (Q := fun _ s' => SP X pins Dd .next s') rfl hs C.clos C.kind C.names
    (thn (hi pins s σ H _ I h) fun v s1 h1 => thn h1 fun itv s2 h2 => ?_)) (fun _ s' hq => wpAny_pure (wpAny_pure hq)) fun _ _ e => e)
  obtain ⟨it, fp, tn, J, H2, e, I2, T, st2, f2, hW⟩ := h2
  subst e
  refine comp_run (RR := fun acc Cc => compPost (model X.prog X.w) X.A X.xe (some (assign (.Name x pos') X.env)) (fun _ s' => SP X pins Dd .next s') acc Cc) hc C hg ht he I2 T st2 f2 hW ?_
  intro D Cc s' fl H' m I' f0 f1 f2' f3 f4 f5 hns fi
  show wpAny _ X.A (assign (.Name x pos') X.env (.ref D)) _ _ _
  refine wpAny_assign_Name (store_ok2 (v := .ref D) I' hN hix hx rfl (fun s3 I3 ⟨a, sb, ha⟩ => ?_) hf)
  have na : Cc ≠ a := by
    rcases ha with z | z
    · rw [z]; exact f1
    · exact fun q => f4 x a z q.symm
  refine ⟨m, hns.sameBut sb na, fun h' sb' => ?_⟩
  exact ⟨_, H', I3.turned (t' := s3.toks) (fun b o hb e => (sb'.2 b hb).trans e) f0 f1 (.inr f3) f4 f5, fi⟩
end
theorem comp_tup {K : PySem.W.Frag} {a D : Addr} {xs : List V} {g : TG} {tt : TT} {te : TE} {fin : Hp → Prop} {σ0 : St} {H0 : Hp} (Pv : Nat → List V → St → Hp → Prop) (h0 : Pv 0 [] σ0 H0)
    (hq : ∀ i ys σ H, i ≤ xs.length → Pv i ys σ H → SqT K H a xs ∧ H D = some (.lst ys))
    (hs : ∀ i x ys σ H, xs[i]? = some x → Pv i ys σ H → g x σ H fun σ2 H2 => tt σ2 H2 fun ok H3 => if ok = true then te σ2 H3 fun y H4 => H4 D = some (.lst ys) ∧ ys.length < sizeLine ∧ Pv (i + 1) (ys ++ [y]) σ2 (upd H4 D (.lst (ys ++ [y]))) else Pv (i + 1) ys σ2 H3)
    (hd : ∀ ys σ H, Pv xs.length ys σ H → fin H) : ∃ W : Nat → Nat → List V → St → Hp → Prop, (∃ m, W 0 m [] σ0 H0) ∧ CompW (Itt K a) g tt te D W fin := by
  refine ⟨fun i m ys σ H => m = xs.length - i ∧ i ≤ xs.length ∧ Pv i ys σ H, ⟨xs.length, by simp, Nat.zero_le _, h0⟩, ?_⟩
  rintro i m ys σ H ⟨rfl, hi, p⟩
  obtain ⟨q, hD⟩ := hq i ys σ H hi p
  refine ⟨hD, ?_⟩
  by_cases hlt : i < xs.length
  · refine .inr ⟨⟨xs, xs[i], q, by simp [hlt]⟩, Pv (i + 1), fun ys' σ' H' p' => ⟨xs.length - (i + 1), by omega, rfl, hlt, p'⟩, fun x H' y => ?_⟩
    obtain ⟨e, y⟩ := y
    subst e
    exact hs i x ys σ _ (y xs q) p
  · have e : i = xs.length := by omega
    subst e
    exact .inl ⟨⟨xs, q, Nat.le_refl _⟩, hd ys σ H p⟩
theorem comp_list {K : PySem.W.Frag} {a D : Addr} {xs : List V} {g : TG} {tt : TT} {te : TE} {fin : Hp → Prop} {σ0 : St} {H0 : Hp} (Pv : Nat → List V → St → Hp → Prop) (h0 : Pv 0 [] σ0 H0)
    (hq : ∀ i ys σ H, i ≤ xs.length → Pv i ys σ H → SqL K H a xs ∧ H D = some (.lst ys))
    (hs : ∀ i x ys σ H, xs[i]? = some x → Pv i ys σ H → g x σ H fun σ2 H2 => tt σ2 H2 fun ok H3 => if ok = true then te σ2 H3 fun y H4 => H4 D = some (.lst ys) ∧ ys.length < sizeLine ∧ Pv (i + 1) (ys ++ [y]) σ2 (upd H4 D (.lst (ys ++ [y]))) else Pv (i + 1) ys σ2 H3)
    (hd : ∀ ys σ H, Pv xs.length ys σ H → fin H) : ∃ W : Nat → Nat → List V → St → Hp → Prop, (∃ m, W 0 m [] σ0 H0) ∧ CompW (Itl K a) g tt te D W fin := by
  refine ⟨fun i m ys σ H => m = xs.length - i ∧ i ≤ xs.length ∧ Pv i ys σ H, ⟨xs.length, by simp, Nat.zero_le _, h0⟩, ?_⟩
  rintro i m ys σ H ⟨rfl, hi, p⟩
  obtain ⟨q, hD⟩ := hq i ys σ H hi p
  refine ⟨hD, ?_⟩
  by_cases hlt : i < xs.length
  · refine .inr ⟨⟨xs, xs[i], q, by simp [hlt]⟩, Pv (i + 1), fun ys' σ' H' p' => ⟨xs.length - (i + 1), by omega, rfl, hlt, p'⟩, fun x H' y => ?_⟩
    obtain ⟨e, y⟩ := y
    subst e
    exact hs i x ys σ _ (y xs q) p
  · have e : i = xs.length := by omega
    subst e
    exact .inl ⟨⟨xs, q, Nat.le_refl _⟩, hd ys σ H p⟩
theorem comp_range {lo : Int} {n : Nat} {D : Addr} {g : TG} {tt : TT} {te : TE} {fin : Hp → Prop} {σ0 : St} {H0 : Hp} (Pv : Nat → List V → St → Hp → Prop) (h0 : Pv 0 [] σ0 H0)
    (hq : ∀ i ys σ H, i ≤ n → Pv i ys σ H → H D = some (.lst ys))
    (hs : ∀ i ys σ H, i < n → Pv i ys σ H → g (.int (lo + i)) σ H fun σ2 H2 => tt σ2 H2 fun ok H3 => if ok = true then te σ2 H3 fun y H4 => H4 D = some (.lst ys) ∧ ys.length < sizeLine ∧ Pv (i + 1) (ys ++ [y]) σ2 (upd H4 D (.lst (ys ++ [y]))) else Pv (i + 1) ys σ2 H3)
    (hd : ∀ ys σ H, Pv n ys σ H → fin H) : ∃ W : Nat → Nat → List V → St → Hp → Prop, (∃ m, W 0 m [] σ0 H0) ∧ CompW (Itr lo n) g tt te D W fin := by
  refine ⟨fun i m ys σ H => m = n - i ∧ i ≤ n ∧ Pv i ys σ H, ⟨n, by simp, Nat.zero_le _, h0⟩, ?_⟩
  rintro i m ys σ H ⟨rfl, hi, p⟩
  refine ⟨hq i ys σ H hi p, ?_⟩
  by_cases hlt : i < n
  · refine .inr ⟨hlt, Pv (i + 1), fun ys' σ' H' p' => ⟨n - (i + 1), by omega, rfl, hlt, p'⟩, fun x H' y => ?_⟩
    obtain ⟨e, y⟩ := y
    subst e y
    exact hs i ys σ _ hlt p
  · have e : i = n := by omega
    subst e
    exact .inl ⟨Nat.le_refl _, hd ys σ H p⟩
end L2
set_option linter.all false
namespace SetM
open PySem
def Ris (xs : Array Nat) : Prop := ∀ a b (h : a < b) (hb : b < xs.size), xs[a]'(Nat.lt_trans h hb) < xs[b]
theorem getD_in {xs : Array Nat} {i d : Nat} (h : i < xs.size) : xs.getD i d = xs[i] := by simp [Array.getD, h]
theorem go_spec {xs : Array Nat} {j : Nat} (hr : Ris xs) : ∀ (fuel lo hi : Nat), hi - lo ≤ fuel → lo ≤ hi → hi ≤ xs.size → (∀ i (h : i < xs.size), i < lo → xs[i] < j) → (∀ i (h : i < xs.size), hi ≤ i → j ≤ xs[i]) →
    (∀ i (h : i < xs.size), i < SetTable.below.go xs j fuel lo hi → xs[i] < j) ∧ (∀ i (h : i < xs.size), SetTable.below.go xs j fuel lo hi ≤ i → j ≤ xs[i]) ∧ SetTable.below.go xs j fuel lo hi ≤ xs.size
  | 0, lo, hi, hf, hl, hs, h1, h2 => by
    have e : lo = hi := by omega
    subst e
    simp only [SetTable.below.go]
    exact ⟨h1, h2, hs⟩
  | fuel + 1, lo, hi, hf, hl, hs, h1, h2 => by
    simp only [SetTable.below.go]
    by_cases h : lo < hi
    · rw [if_pos h]
      have hm : (lo + hi) / 2 < xs.size := by omega
      rw [getD_in hm]
      by_cases hc : xs[(lo + hi) / 2] < j
      · rw [if_pos hc]
        refine go_spec hr fuel _ _ (by omega) (by omega) hs (fun i hi' hlt => ?_) h2
        rcases Nat.lt_or_ge i ((lo + hi) / 2) with z | z
        · exact Nat.lt_trans (hr i _ z hm) hc
        · have e : i = (lo + hi) / 2 := by omega
          subst e; exact hc
      · rw [if_neg hc]
        refine go_spec hr fuel _ _ (by omega) (by omega) (by omega) h1 (fun i hi' hle => ?_)
        rcases Nat.lt_or_ge ((lo + hi) / 2) i with z | z
        · have := hr _ i z hi'; omega
        · have e : i = (lo + hi) / 2 := by omega
          subst e; omega
    · rw [if_neg h]
      have e : lo = hi := by omega
      subst e
      exact ⟨h1, h2, hs⟩
theorem below_spec {xs : Array Nat} {j : Nat} (hr : Ris xs) : (∀ i (h : i < xs.size), i < SetTable.below xs j → xs[i] < j) ∧ (∀ i (h : i < xs.size), SetTable.below xs j ≤ i → j ≤ xs[i]) ∧ SetTable.below xs j ≤ xs.size :=
  go_spec hr xs.size 0 xs.size (by omega) (by omega) (Nat.le_refl _) (fun i _ h => by omega) (fun i h h' => by omega)
theorem ris_range (n : Nat) : Ris (Array.range n) := fun a b h hb => by simp; omega
theorem insert_get {xs : Array Nat} {p j : Nat} (hp : p ≤ xs.size) : ∀ i, (SetTable.insertAt xs p j)[i]? = if i < p then xs[i]? else if i = p then some j else xs[i - 1]? := by
  intro i
  unfold SetTable.insertAt
  have hs1 : ((xs.extract 0 p).push j).size = p + 1 := by simp; omega
  rw [Array.getElem?_append, hs1]
  by_cases h1 : i < p + 1
  · rw [if_pos h1, Array.getElem?_push]
    have hs2 : (xs.extract 0 p).size = p := by simp; omega
    rw [hs2]
    by_cases h2 : i = p
    · rw [if_pos h2, if_neg (by omega), if_pos h2]
    · rw [if_neg h2, if_pos (by omega)]
      rw [Array.getElem?_extract]
      simp
      omega
  · rw [if_neg h1, if_neg (by omega), if_neg (by omega)]
    rw [Array.getElem?_extract]
    have e : p + (i - (p + 1)) = i - 1 := by omega
    rw [e]
    simp
    intro h
    omega
theorem insert_size {α : Type} {xs : Array α} {p : Nat} {j : α} (hp : p ≤ xs.size) : (SetTable.insertAt xs p j).size = xs.size + 1 := by
  unfold SetTable.insertAt
  simp
  omega
theorem ris_put {xs : Array Nat} {j : Nat} (hr : Ris xs) (hn : xs[SetTable.below xs j]? ≠ some j) : Ris (SetTable.insertAt xs (SetTable.below xs j) j) := by
  obtain ⟨h1, h2, h3⟩ := below_spec (j := j) hr
  generalize hk : SetTable.below xs j = k at h1 h2 h3 hn
  have g := insert_get (xs := xs) (j := j) h3
  intro a b hab hb
  rw [insert_size h3] at hb
  have ga := g a
  have gb := g b
  have ha' : a < (SetTable.insertAt xs k j).size := by rw [insert_size h3]; omega
  have hb' : b < (SetTable.insertAt xs k j).size := by rw [insert_size h3]; omega
  rw [Array.getElem?_eq_getElem ha'] at ga
  rw [Array.getElem?_eq_getElem hb'] at gb
  have strict : ∀ i (h : i < xs.size), k ≤ i → j < xs[i] := fun i h hk' => by
    have hle := h2 i h hk'
    rcases Nat.lt_or_ge k i with z | z
    · have hkz : k < xs.size := by omega
      have := hr k i z h
      have := h2 k hkz (Nat.le_refl _)
      omega
    · have e : i = k := by omega
      subst e
      rw [Array.getElem?_eq_getElem h] at hn
      have : xs[i] ≠ j := fun q => hn (by rw [q])
      omega
  by_cases a1 : a < k
  · rw [if_pos a1, Array.getElem?_eq_getElem (by omega)] at ga
    have ga' := Option.some.inj ga
    by_cases b1 : b < k
    · rw [if_pos b1, Array.getElem?_eq_getElem (by omega)] at gb
      have gb' := Option.some.inj gb
      rw [ga', gb']
      exact hr a b hab (by omega)
    · rw [if_neg b1] at gb
      by_cases b2 : b = k
      · rw [if_pos b2] at gb
        have gb' := Option.some.inj gb
        rw [ga', gb']
        exact h1 a (by omega) a1
      · rw [if_neg b2, Array.getElem?_eq_getElem (by omega)] at gb
        have gb' := Option.some.inj gb
        rw [ga', gb']
        exact hr a (b - 1) (by omega) (by omega)
  · rw [if_neg a1] at ga
    rw [if_neg (by omega), if_neg (by omega), Array.getElem?_eq_getElem (by omega)] at gb
    have gb' := Option.some.inj gb
    by_cases a2 : a = k
    · rw [if_pos a2] at ga
      have ga' := Option.some.inj ga
      rw [ga', gb']
      exact strict (b - 1) (by omega) (by omega)
    · rw [if_neg a2, Array.getElem?_eq_getElem (by omega)] at ga
      have ga' := Option.some.inj ga
      rw [ga', gb']
      exact hr (a - 1) (b - 1) (by omega) (by omega)
end SetM
namespace SetM
open PySem
structure TabI (t : SetTable) (n : Nat) : Prop where
  size : t.place.size = n
  dum : t.dummies = #[]
  ris : Ris t.place
  room : n ≤ t.mask
theorem TabI.fits {t : SetTable} {n : Nat} (h : TabI t n) : t.fits n = true := by
  unfold SetTable.fits SetTable.fill
  rw [h.dum, h.size]
  simp
  exact h.room
theorem tab_fresh (f m : Nat) (led : Bool) : TabI (SetTable.fresh f m led) 0 := ⟨rfl, rfl, fun a b _ hb => by simp [SetTable.fresh] at hb, Nat.zero_le _⟩
theorem tab_standIn (t : SetTable) (n : Nat) : TabI (t.standIn n) n := ⟨by simp [SetTable.standIn], rfl, ris_range n, by simp [SetTable.standIn]; omega⟩
theorem has_nil (j : Nat) : SetTable.has #[] j = false := by simp [SetTable.has]
theorem tab_orStandIn {t : SetTable} {n : Nat} (hs : t.place.size = n) (hd : t.dummies = #[]) (hr : Ris t.place) : TabI (t.orStandIn n) n := by
  unfold SetTable.orStandIn
  split
  · rename_i h
    refine ⟨hs, hd, hr, ?_⟩
    unfold SetTable.fits SetTable.fill at h
    rw [hd, hs] at h
    simpa using h
  · exact tab_standIn t n
theorem probe_empty {t : SetTable} (hd : t.dummies = #[]) {f : Nat → Int} {h : Int} {j : Nat} {dm : Option Nat} : ∀ (fuel : Nat) (p : SetTable.Probe), p.dummy = none → SetTable.probe.go t f h fuel p = some (.empty j dm) → dm = none ∧ t.place[SetTable.below t.place j]? ≠ some j
  | 0, p, _, e => by simp [SetTable.probe.go] at e
  | fuel + 1, p, hp, e => by
    have adv : (t.advance p).dummy = none := by
      unfold SetTable.advance
      split
      · exact hp
      · exact hp
    simp only [SetTable.probe.go] at e
    cases hs : t.slot p.j with
    | empty =>
      rw [hs] at e
      simp only [Option.some.injEq, SetTable.Met.empty.injEq] at e
      obtain ⟨e1, e2⟩ := e
      subst e1
      refine ⟨by rw [← e2, hp], fun q => ?_⟩
      unfold SetTable.slot at hs
      simp [q] at hs
    | dummy =>
      exfalso
      unfold SetTable.slot at hs
      simp only [hd, has_nil] at hs
      split at hs <;> simp at hs
    | live i =>
      rw [hs] at e
      simp only at e
      split at e
      · simp at e
      · exact probe_empty hd fuel _ adv e
theorem tab_layNew {t : SetTable} {es : Array (Int × Value)} (h : TabI t es.size) (k : Int) (x : Value) : TabI (layNew t es k x).2.1 (layNew t es k x).1.size := by
  unfold layNew
  cases hf : t.freeSlot k with
  | none =>
    simp only
    have : (es.push (k, x)).size = es.size + 1 := by simp
    rw [this]
    exact tab_standIn t _
  | some sw =>
    obtain ⟨slot, wd⟩ := sw
    simp only
    unfold SetTable.freeSlot at hf
    have hn : t.place[SetTable.below t.place slot]? ≠ some slot := by
      cases hp : t.probe (fun _ => k + 1) k (t.probeStart k) with
      | none => rw [hp] at hf; simp at hf
      | some m =>
        rw [hp] at hf
        cases m with
        | candidate a b c => simp at hf
        | empty j dm =>
          obtain ⟨e1, e2⟩ := probe_empty h.dum _ (t.probeStart k) rfl hp
          subst e1
          simp at hf
          rw [← hf.1]
          exact e2
    obtain ⟨_, _, hb⟩ := below_spec (j := slot) h.ris
    have hb' : SetTable.below t.place slot ≤ es.size := by rw [← h.size]; exact hb
    have e1 : (t.put slot).2 = SetTable.below t.place slot := rfl
    refine tab_orStandIn ?_ ?_ ?_
    · rw [e1, insert_size hb']
      show (SetTable.insertAt t.place (SetTable.below t.place slot) slot).size = es.size + 1
      rw [insert_size hb, h.size]
    · show (if SetTable.has t.dummies slot then _ else t.dummies) = #[]
      rw [h.dum, has_nil]
      rfl
    · exact ris_put h.ris hn
theorem layNew_led {t : SetTable} {es : Array (Int × Value)} (k : Int) (x : Value) : (layNew t es k x).2.1.led = t.led := by
  unfold layNew
  split
  · simp only [SetTable.orStandIn]
    split <;> rfl
  · rfl
theorem range_live (n : Nat) (g : Nat → Option Nat) : ((List.range n).filterMap fun j => (g j).map (j, ·)).Pairwise fun a b => a.1 < b.1 := by
  rw [List.pairwise_filterMap]
  refine List.Pairwise.imp ?_ List.pairwise_lt_range
  intro a b hab c hc d hd
  cases ha : g a with
  | none => rw [ha] at hc; simp at hc
  | some u =>
    cases hb : g b with
    | none => rw [hb] at hd; simp at hd
    | some v =>
      rw [ha] at hc
      rw [hb] at hd
      simp at hc hd
      rw [← hc, ← hd]
      exact hab
theorem tab_relayAll {t : SetTable} {es : Array (Int × Value)} (wanted : Nat) : TabI (relayAll t es wanted).2.1 (relayAll t es wanted).1.size := by
  unfold relayAll
  cases hr : t.relaid (es.map (·.1)) wanted with
  | none => exact tab_standIn t _
  | some to =>
    obtain ⟨t', order⟩ := to
    simp only
    split
    · rename_i hc
      unfold SetTable.relaid SetTable.laid at hr
      cases hl : SetTable.layClean (SetTable.sizeAbove wanted - 1) (es.map (·.1)) with
      | none => rw [hl] at hr; simp at hr
      | some owner =>
        rw [hl] at hr
        simp at hr
        obtain ⟨h1, h2⟩ := hr
        have hfit := (Bool.and_eq_true_iff.mp hc).2
        have hd : t'.dummies = #[] := by rw [← h1]
        refine ⟨?_, hd, ?_, ?_⟩
        · unfold SetTable.fits at hfit
          simp at hfit
          exact hfit.1
        · rw [← h1]
          intro a b hab hb
          have hp := range_live (SetTable.sizeAbove wanted - 1 + 1) (fun j => owner[j]?.getD none)
          have hp2 : (((List.range (SetTable.sizeAbove wanted - 1 + 1)).filterMap fun j => (owner[j]?.getD none).map (j, ·)).map fun p => p.1).Pairwise (· < ·) := List.pairwise_map.mpr hp
          simp only [List.getElem_toArray]
          exact List.pairwise_iff_getElem.mp hp2 a b _ _ hab
        · unfold SetTable.fits SetTable.fill at hfit
          rw [hd] at hfit
          simp at hfit
          exact (hfit.1 ▸ hfit.2 : _)
    · exact tab_standIn t _
theorem relayAll_led {t : SetTable} {es : Array (Int × Value)} (wanted : Nat) : (relayAll t es wanted).2.1.led = t.led := by
  unfold relayAll
  cases hr : t.relaid (es.map (·.1)) wanted with
  | none => rfl
  | some to =>
    obtain ⟨t', order⟩ := to
    simp only
    split
    · unfold SetTable.relaid SetTable.laid at hr
      cases hl : SetTable.layClean (SetTable.sizeAbove wanted - 1) (es.map (·.1)) with
      | none => rw [hl] at hr; simp at hr
      | some owner =>
        rw [hl] at hr
        simp at hr
        rw [← hr.1]
    · rfl
end SetM
set_option linter.all false
set_option maxRecDepth 100000
namespace SetM
open PySem
theorem paired_perm {α β : Type} {F : α → β → Prop} {l l' : List β} (p : l'.Perm l) : ∀ {ks : List α}, Paired F ks l → ∃ ks', Paired F ks' l' ∧ ks'.Perm ks := by
  induction p with
  | nil => intro ks h; cases h; exact ⟨[], .nil, .nil⟩
  | cons x p ih =>
    intro ks h
    cases h with
    | cons r t =>
      obtain ⟨ks', h1, h2⟩ := ih t
      exact ⟨_ :: ks', .cons r h1, h2.cons _⟩
  | swap x y l =>
    intro ks h
    cases h with
    | cons r t =>
      cases t with
      | cons r' t' => exact ⟨_ :: _ :: _, .cons r' (.cons r t'), .swap _ _ _⟩
  | trans p1 p2 ih1 ih2 =>
    intro ks h
    obtain ⟨k1, h1, h2⟩ := ih2 h
    obtain ⟨k2, h3, h4⟩ := ih1 h1
    exact ⟨k2, h3, h4.trans h2⟩
theorem paired_mem {α β : Type} {F : α → β → Prop} : ∀ {ks : List α} {l : List β}, Paired F ks l → ∀ k ∈ ks, ∃ e ∈ l, F k e
  | _, _, .nil, k, h => by cases h
  | _, _, .cons r t, k, h => by
    rcases List.mem_cons.mp h with z | z
    · subst z; exact ⟨_, List.mem_cons_self, r⟩
    · obtain ⟨e, h1, h2⟩ := paired_mem t k z
      exact ⟨e, List.mem_cons_of_mem _ h1, h2⟩
theorem paired_mem' {α β : Type} {F : α → β → Prop} : ∀ {ks : List α} {l : List β}, Paired F ks l → ∀ e ∈ l, ∃ k ∈ ks, F k e
  | _, _, .nil, k, h => by cases h
  | _, _, .cons r t, k, h => by
    rcases List.mem_cons.mp h with z | z
    · subst z; exact ⟨_, List.mem_cons_self, r⟩
    · obtain ⟨e, h1, h2⟩ := paired_mem' t k z
      exact ⟨e, List.mem_cons_of_mem _ h1, h2⟩
section
variable {prog : Program} {w : World} {K : Type} [DecidableEq K] (knd : KeyKind prog w K)
structure SetO (o : Obj) (ks : List K) : Prop where
  ex : o.ExactSet
  dat : ∃ es ep t, o.data = .set es ep t ∧ ElemsOf knd es.toList ∧ Paired (fun k (e : Int × Value) => knd.is k e.2 = true) ks es.toList ∧ es.size < scanBound ∧ TabI t es.size ∧ t.led = !(w.params.followText "set-order")
  nd : ks.Nodup
def SetG (h : Heap) (a : Addr) (ks : List K) : Prop := ∃ o, h.get? a = some o ∧ SetO knd o ks
variable {knd} {A : Around} {E : Value → Shared → Prop} {s : Shared} {a : Addr}
theorem SetO.len {o : Obj} {ks : List K} (h : SetO knd o ks) : ks.length < scanBound := by
  obtain ⟨es, ep, t, _, _, p, b, _⟩ := h.dat
  rw [p.length, Array.length_toList]
  exact b
theorem store_back {o : Obj} {es es' : Array (Int × Value)} {ep : Nat} {t t' : SetTable} {ks' : List K} {h : Heap} (ho : h.get? a = some o) (hex : o.ExactSet) (hd : o.data = .set es ep t) (el : ElemsOf knd es'.toList)
    (pr : Paired (fun k (e : Int × Value) => knd.is k e.2 = true) ks' es'.toList) (hb : es'.size < scanBound) (ti : TabI t' es'.size) (hl : t'.led = !(w.params.followText "set-order")) (nd : ks'.Nodup) :
    (h.update a (Obj.putSet es' t')).get? a = some { o with data := .set es' (ep + 1) t' } ∧ SetO knd { o with data := .set es' (ep + 1) t' } ks' := by
  have mem : ∀ k', (decide (k' ∈ ks')) = true ↔ ∃ e ∈ es'.toList, knd.is k' e.2 = true := fun k' => by
    rw [decide_eq_true_eq]
    constructor
    · exact fun hk => paired_mem pr k' hk
    · rintro ⟨e, he, hq⟩
      obtain ⟨k2, h1, h2⟩ := paired_mem' pr e he
      rw [knd.inj e.2 k' k2 hq h2]
      exact h1
  obtain ⟨e1, o2, es2, ep2, t2, e2, ex2, d2, _⟩ := SetOf_store (knd := knd) ho hex hd el mem hb ti.fits
  rw [e1] at e2
  cases e2
  exact ⟨e1, ⟨ex2, ⟨es', ep + 1, t', rfl, el, pr, hb, ti, hl⟩, nd⟩⟩
theorem set_add {ks : List K} {k : K} {x : Value} {Q : Bool → Shared → Prop} (hkey : knd.is k x = true) (hsc : x.scannable = true) (hS : SetG knd s.heap a ks) (hroom : ks.length + 1 < scanBound)
    (h : ∀ h' ks', Heap.SameBut a s.heap h' → SetG knd h' a ks' → ks'.Perm (if k ∈ ks then ks else ks ++ [k]) → Q (!decide (k ∈ ks)) { s with heap := h' }) :
    wpAny (model prog w) A (setAddHashed a x (knd.hash k)) Q E s := by
  obtain ⟨o, ho, S⟩ := hS
  obtain ⟨es, ep, t, hd, hel, pr, hb, ti, hled⟩ := S.dat
  have hlen : ks.length = es.size := by rw [pr.length, Array.length_toList]
  unfold setAddHashed setAddHashedIn
  refine wpAny_holding (wpAny_bind (wpAny_setState_of ho hd ti.fits ?_))
  dsimp only
  rw [byScan_of hsc hb hel]
  simp only [↓reduceIte]
  unfold setAddByScan
  refine wpAny_bind (wpAny_bind (wpAny_rule (wpAny_bind (wpAny_setScan_of hkey ho hd ti.fits hel ?_))))
  cases hr : List.findIdx? (fun e => knd.is k e.2) es.toList with
  | some j =>
    dsimp only
    obtain ⟨hj, hpj, _⟩ := List.findIdx?_eq_some_iff_getElem.mp hr
    have hk : k ∈ ks := by
      obtain ⟨k2, h1, h2⟩ := paired_mem' pr _ (List.getElem_mem hj)
      rw [knd.inj _ k k2 hpj h2]
      exact h1
    have q := h s.heap ks (Heap.SameBut.refl a s.heap) ⟨o, ho, S⟩ (by rw [if_pos hk])
    rw [decide_eq_true hk] at q
    exact wpAny_pure (wpAny_pure q)
  | none =>
    dsimp only
    have hk : k ∉ ks := fun hm => by
      obtain ⟨e, he, hq⟩ := paired_mem pr k hm
      have z := List.findIdx?_eq_none_iff.mp hr e he
      rw [hq] at z
      cases z
    have gw : ∀ (b : Bool) {s₁ : Shared} {Q' : Unit → Shared → Prop}, Q' () s₁ → wpAny (model prog w) A (match b with | true => rule "set.scan.the-table-gave-way" | false => pure ()) Q' E s₁ :=
      fun b s₁ Q' hq => by cases b <;> first | exact wpAny_pure hq | exact wpAny_rule hq
    have perm0 := layNew_perm t es (knd.hash k) x
    have tab1 := tab_layNew (t := t) ti (knd.hash k) x
    have led1 := layNew_led (t := t) (es := es) (knd.hash k) x
    generalize hL : layNew t es (knd.hash k) x = L at perm0 tab1 led1 ⊢
    obtain ⟨es1, t1, wasDummy, gave⟩ := L
    dsimp only at perm0 tab1 led1 ⊢
    rw [Array.toList_push] at perm0
    have el1 : ElemsOf knd es1.toList := (hel.push hkey hsc).perm perm0
    have pr0 : Paired (fun k (e : Int × Value) => knd.is k e.2 = true) (ks ++ [k]) (es.toList ++ [(knd.hash k, x)]) := Paired.snoc pr hkey
    obtain ⟨ks1, pr1, pk1⟩ := paired_perm perm0 pr0
    have nd1 : ks1.Nodup := pk1.nodup_iff.mpr (List.nodup_append.mpr ⟨S.nd, List.nodup_cons.mpr ⟨by simp, List.nodup_nil⟩, fun u hu v hv => by
      rw [List.mem_singleton.mp hv]; exact fun z => hk (z ▸ hu)⟩)
    have sz1 : es1.size = es.size + 1 := by
      have := perm0.length_eq
      rw [List.length_append, Array.length_toList, Array.length_toList] at this
      simpa using this
    have hb1 : es1.size < scanBound := by omega
    refine wpAny_bind (gw _ ?_)
    have tailOk : ∀ t2 : SetTable, TabI t2 es1.size → t2.led = t.led → wpAny (model prog w) A (do
        storeSet a es1 t2
        if (!wasDummy && t2.tooFull) = true then do
            (match (relayAll t2 es1 (SetTable.grown es1.size)).2.2 with | true => rule "set.scan.the-table-gave-way" | false => pure ())
            storeSet a (relayAll t2 es1 (SetTable.grown es1.size)).1 (relayAll t2 es1 (SetTable.grown es1.size)).2.1
            pure (some true)
          else pure (some true)) (fun b s' => b = some true ∧ ∃ h' ks', s' = { s with heap := h' } ∧ Heap.SameBut a s.heap h' ∧ SetG knd h' a ks' ∧ ks'.Perm (ks ++ [k])) E s := by
      intro t2 ti2 hl2
      refine wpAny_bind (wpAny_storeSet_of ho hd ?_ (fits_of_scanBound hb1))
      obtain ⟨g1, S1⟩ := store_back (knd := knd) ho S.ex hd el1 pr1 hb1 ti2 (hl2.trans hled) nd1
      have sb1 := Heap.SameBut.update s.heap a (Obj.putSet es1 t2)
      split
      · have hp := relayAll_perm t2 es1 (SetTable.grown es1.size)
        have ti3 := tab_relayAll (t := t2) (es := es1) (SetTable.grown es1.size)
        have led3 := relayAll_led (t := t2) (es := es1) (SetTable.grown es1.size)
        generalize relayAll t2 es1 (SetTable.grown es1.size) = Rl at hp ti3 led3 ⊢
        obtain ⟨es2, t3, gave2⟩ := Rl
        dsimp only at hp ti3 led3 ⊢
        obtain ⟨ks2, pr2, pk2⟩ := paired_perm hp pr1
        have sz2 : es2.size = es1.size := by
          have := hp.length_eq
          rwa [Array.length_toList, Array.length_toList] at this
        have hb2 : es2.size < scanBound := by omega
        refine wpAny_bind (gw _ ?_)
        refine wpAny_bind (wpAny_storeSet_of g1 rfl ?_ (fits_of_scanBound hb2))
        obtain ⟨g2, S2⟩ := store_back (knd := knd) g1 S1.ex rfl (el1.perm hp) pr2 hb2 ti3 (led3.trans (hl2.trans hled)) (pk2.nodup_iff.mpr nd1)
        exact wpAny_pure ⟨rfl, _, ks2, rfl, sb1.trans (Heap.SameBut.update _ a _), ⟨_, g2, S2⟩, pk2.trans pk1⟩
      · exact wpAny_pure ⟨rfl, _, ks1, rfl, sb1, ⟨_, g1, S1⟩, pk1⟩
    have fin : ∀ b s', (b = some true ∧ ∃ h' ks', s' = { s with heap := h' } ∧ Heap.SameBut a s.heap h' ∧ SetG knd h' a ks' ∧ ks'.Perm (ks ++ [k])) →
        wpAny (model prog w) A (match b with | some added => pure added | none => setAddHashedIn a x (knd.hash k) 99999) Q E s' := by
      rintro b s' ⟨rfl, h', ks', rfl, sb, g, pk⟩
      have q := h h' ks' sb g (by rw [if_neg hk]; exact pk)
      rw [decide_eq_false hk] at q
      exact wpAny_pure q
    split
    · refine wpAny_bind ?_
      rw [hashByValue_scannable 8 hsc]
      refine wpAny_pure ?_
      refine wpAny_mono (tailOk _ ?_ ?_) fin fun _ _ z => z
      · split
        · exact tab1
        · exact ⟨tab1.size, tab1.dum, tab1.ris, tab1.room⟩
      · split
        · exact led1
        · exact led1
    · refine wpAny_bind (wpAny_pure ?_)
      simp only [↓reduceIte]
      exact wpAny_mono (tailOk _ tab1 led1) fin fun _ _ z => z
end
end SetM
set_option linter.all false
set_option maxRecDepth 100000
namespace SetM
open PySem PyProof.Rows
section
variable {prog : Program} {w : World} {K : Type} [DecidableEq K] {knd : KeyKind prog w K}
theorem SetG.at' {h h' : Heap} {a : Addr} {ks : List K} (x : SetG knd h a ks) (e : ∀ o, h.get? a = some o → h'.get? a = some o) : SetG knd h' a ks := let ⟨o, ho, S⟩ := x; ⟨o, e o ho, S⟩
structure Upto (val : Nat → K) (i : Nat) (ks : List K) : Prop where
  mem : ∀ x, x ∈ ks ↔ ∃ j, j < i ∧ val j = x
  len : ks.length ≤ i
theorem Upto.zero (val : Nat → K) : Upto val 0 [] := ⟨fun x => ⟨fun z => absurd z List.not_mem_nil, fun ⟨j, z, _⟩ => absurd z (Nat.not_lt_zero _)⟩, Nat.le_refl _⟩
theorem Upto.next {val : Nat → K} {i : Nat} {ks ks' : List K} (u : Upto val i ks) (pk : ks'.Perm (if val i ∈ ks then ks else ks ++ [val i])) : Upto val (i + 1) ks' := by
  refine ⟨fun x => ?_, ?_⟩
  · rw [pk.mem_iff]
    constructor
    · intro hx
      have hx' : x ∈ ks ∨ x = val i := by
        split at hx
        · exact .inl hx
        · rcases List.mem_append.mp hx with hx | hx
          · exact .inl hx
          · exact .inr (List.mem_singleton.mp hx)
      rcases hx' with hx' | hx'
      · obtain ⟨j, h1, h2⟩ := (u.mem x).mp hx'
        exact ⟨j, by omega, h2⟩
      · exact ⟨i, by omega, hx'.symm⟩
    · rintro ⟨j, h1, h2⟩
      by_cases hx : x ∈ ks
      · split
        · exact hx
        · exact List.mem_append_left _ hx
      · have e : j = i := by
          rcases Nat.lt_or_ge j i with z | z
          · exact absurd ((u.mem x).mpr ⟨j, z, h2⟩) hx
          · omega
        subst e
        rw [h2, if_neg hx]
        exact List.mem_append_right _ (List.mem_singleton_self _)
  · rw [pk.length_eq]
    have := u.len
    split
    · omega
    · simp only [List.length_append, List.length_singleton]
      omega
variable {A : Around} {R : Result → Shared → Prop} {I : Addr} {fp wr : List Addr} {G : Array GenState → Array GenState → Prop} {n : Nat} {P : Nat → Value → Prop} {St : Nat → Shared → Prop}
theorem fill_loop (W : WalksS prog w A.in1 I fp wr G n P St) {a : Addr} (na : a ∉ fp) {val : Nat → K} (hval : ∀ i v, P i v → knd.is (val i) v = true ∧ v.scannable = true) (hb : n + 1 < scanBound) (i : Nat) (s : Shared) (ks : List K)
    (hi : i ≤ n) (st : St i s) (hS : SetG knd s.heap a ks) (u : Upto val i ks) (fin : ∀ s' ks', Moved (a :: wr) G s s' → SetG knd s'.heap a ks' → Upto val n ks' → R (.ok (.ret .none)) s') :
    codeAny (model prog w) A (.builtin "set.update.loop" ⟨[.ref a, .ref I], []⟩) R s := by
  have naw : a ∉ wr := fun z => na (W.sub _ z)
  have more : ∀ b ∈ wr, b ∈ a :: wr := fun b z => List.mem_cons_of_mem _ z
  refine codeAny_builtin PyProof.Rows.F.entry_set_update_loop ?_
  rw [Around.under_plainId PyProof.Rows.F.plain_set_update_loop]
  refine wpAny_bind (m := pyNext (.ref I)) ?_
  by_cases hlt : i < n
  · refine W.item i s _ _ hlt st fun v s1 hP st1 mv => ?_
    obtain ⟨hv, hsc⟩ := hval i v hP
    have hS1 : SetG knd s1.heap a ks := hS.at' fun o e => mv.heap a o naw e
    refine wpAny_bind (m := holding [v] (setAdd a v)) (wpAny_holding ?_)
    unfold setAdd
    refine wpAny_holding (wpAny_bind (knd.pyHash (k := val i) hv ?_))
    have := u.len
    refine set_add (knd := knd) (s := { s1 with toks := s1.toks + 1 }) hv hsc hS1 (by omega) fun h2 ks2 sb hS2 pk => wpAny_pure ⟨plainId_quiet PyProof.Rows.F.plain_set_update_loop _, ?_⟩
    refine fill_loop W na hval hb (i + 1) { s1 with heap := h2, toks := s1.toks + 1 } ks2 hlt (W.frame _ s1 _ _ st1 (Nat.le_succ _) fun b hb' o e => ?_) hS2 (u.next pk) fun s3 ks3 mv3 hS3 u3 => ?_
    · rw [sb.2 b fun z => na (z ▸ hb')]
      exact e
    · refine fin s3 ks3 (Moved.trans W.gtrans ((mv.mono more).then_heap (Nat.le_succ _) fun b o hb' e => ?_) mv3) hS3 u3
      rw [sb.2 b fun z => hb' (z ▸ List.mem_cons_self)]
      exact e
  · have e : i = n := by omega
    subst e
    exact W.done s _ _ st fun s1 mv => wpAny_pure (fin s1 ks (mv.mono more) (hS.at' fun o e => mv.heap a o naw e) u)
termination_by n - i
end
section
variable {prog : Program} {w : World} {A : Around} {E : Value → Shared → Prop} {s : Shared}
theorem call_class {T newId initId : String} {args : List Value} {Q : Value → Shared → Prop} (ft : TypeCalled T newId initId) (hct : checkTypeCall T ⟨args, []⟩ = pure ())
    (h : codeAny (model prog w) A.in1 (.call (.builtin newId) ⟨.type T :: args, []⟩) (wants (fun obj s1 => s1.TypeIs obj T ∧ codeAny (model prog w) A.in1 (.call (.builtin initId) ⟨obj :: args, []⟩) (wants (fun r s2 => r = .none ∧ Q obj s2) E) s1) E) s) :
    wpAny (model prog w) A (call (.type T) args) Q E s := by
  have q1 := ft.notType
  have q2 := ft.canCreate
  have q3 := ft.made
  have q4 := ft.sub
  obtain ⟨c, tl, q5⟩ := ft.mro
  apply wpAny_call
  apply codeAny_of_tree
  change wpAny (model prog w) _ (callAny (Value.type T) ⟨args, []⟩) _ _ s
  refine wpAny_pure (And.intro (Code.quiet_builtin _ (by decide +kernel)) (codeAny_builtin PySem.F.entry_type_call ?_))
  rw [Around.under_plain (weight_type_call_type T args []) (units_type_call_type T args [])]
  repeat (any_goals (first | assumption | wp_step))
  refine codeAny_mono h fun r s1 hr => ?_
  rcases r with e | fl
  · exact hr
  · cases fl with
    | ret obj =>
      obtain ⟨hT, hI⟩ := hr
      have q6 := ft.init.lookup
      have q7 := ft.init.bind obj
      repeat (any_goals (first | assumption | wp_step))
      refine codeAny_mono hI fun r2 s2 hr2 => ?_
      rcases r2 with e2 | fl2
      · exact hr2
      · cases fl2 with
        | ret r3 =>
          obtain ⟨rfl, q⟩ := hr2
          repeat (any_goals (first | assumption | wp_step))
        | _ => exact hr2.elim
    | _ => exact hr.elim
abbrev setObj (b : Bool) : Obj := { cls := .type "set", dict := none, data := .set #[] 0 (.fresh 0 0 b) }
theorem new_set (x : Value) {Q1 : Value → Shared → Prop} (h : Q1 (.ref s.heap.objs.size) { s with heap := s.heap.push (setObj (!(w.params.followText "set-order"))) }) :
    codeAny (model prog w) A (.call (.builtin "set.__new__") ⟨[.type "set", x], []⟩) (wants Q1 E) s := by
  have q := sub_set_self
  refine codeAny_call_builtin PySem.F.plain_set_new PySem.F.entry_set_new (wpAny_of_eq (PySem.F.newCall_set_1 x) ?_)
  unfold Builtin.«set.__new__» Builtin.Frozenset.newClass
  obtain ⟨hp, gs, dr, tk, so⟩ := s
  dsimp only
  wp_walk
  refine wpAny_askSetting (wpAny_pure ?_)
  dsimp only
  simp only [newObj]
  exact wpAny_bind (wpAny_alloc (wpAny_pure (wpAny_pure h)))
variable {K : Type} [DecidableEq K] {knd : KeyKind prog w K}
set_option maxHeartbeats 4000000 in
theorem call_set {l : Addr} {xs : Array Value} {val : Nat → K} {Q : Value → Shared → Prop} (hh : A.handled = none) (hl : s.heap.IsList l xs) (hx : ∀ i v, xs[i]? = some v → knd.is (val i) v = true ∧ v.scannable = true) (hb : xs.size + 1 < scanBound)
    (fin : ∀ (h1 : Heap) (tk : Nat) (ks : List K), SetG knd h1 s.heap.objs.size ks → Upto val xs.size ks → (∀ b o, s.heap.get? b = some o → h1.get? b = some o) → Q (.ref s.heap.objs.size) { s with heap := h1, toks := tk }) :
    wpAny (model prog w) A (call (.type "set") [.ref l]) Q E s := by
  refine call_class PySem.F.called_set (PySem.F.typeCall_set_1 (.ref l)) (new_set (.ref l) ?_)
  generalize hb0 : (!(w.params.followText "set-order")) = b0
  have at0 : (s.heap.push (setObj b0)).get? s.heap.objs.size = some (setObj b0) := Heap.get?_push_size _ rfl
  have ty0 : Shared.TypeIs { s with heap := s.heap.push (setObj b0) } (.ref s.heap.objs.size) "set" := ⟨_, at0, rfl⟩
  refine ⟨ty0, codeAny_call_builtin PySem.F.called_set.init.plain PySem.F.entry_set_init (check_set_init_1 ty0 ?_)⟩
  obtain ⟨⟨c0, d0, dt0, sl0⟩, e0, hc0, n0, hd0⟩ := hl
  simp only at hc0 hd0
  subst hc0 hd0
  have e1 : (s.heap.push (setObj b0)).get? l = some ⟨.type "list", d0, .seq xs n0, sl0⟩ := Heap.get?_push_of_some _ e0
  have li : (s.heap.push (setObj b0)).IsList l xs := ⟨_, e1, rfl, n0, rfl⟩
  have u1 := PySem.F.sub_list_set
  have u2 := PySem.F.sub_list_frozenset
  have u3 : (Value.type "list" == Value.type "dict") = false := by decide
  unfold Builtin.«set.__init__» noKeywords Builtin.Frozenset.updateFrom
  generalize hit : pyIter = it
  wp_walk
  subst hit
  have lt0 : l < s.heap.objs.size := Heap.lt_size e0
  have sz : (s.heap.push (setObj b0)).objs.size = s.heap.objs.size + 1 := Heap.size_push _ _
  refine wpAny_pyIter_list li (wpAny_bind (wpAny_runValue ?_))
  refine fill_loop (knd := knd) (val := val) ((Walks.list (by simp [hh]) _ l (by rw [sz]; exact Nat.ne_of_lt (Nat.lt_succ_of_lt lt0)) xs).toS) (fun z => (List.mem_cons.mp z).elim (fun z => absurd z (Nat.ne_of_lt (by rw [sz]; exact Nat.lt_succ_self _))) fun z => absurd (List.mem_singleton.mp z) (Nat.ne_of_gt lt0)) hx hb 0 _ [] (Nat.zero_le _) ⟨⟨_, Heap.get?_push_size _ rfl, rfl, rfl⟩, li.push _⟩
    ⟨_, Heap.get?_push_of_some _ at0, ⟨⟨rfl, rfl, rfl⟩, ⟨#[], 0, _, rfl, fun e he => by simp at he, .nil, by unfold scanBound; decide, tab_fresh _ _ _, hb0.symm⟩, List.nodup_nil⟩⟩ (Upto.zero val) ?_
  rintro ⟨h2, g2, d2, tk2, o2⟩ ks mv S2 u
  have x1 : g2 = s.gens := mv.gens
  have x2 : d2 = s.drawn := mv.drawn
  have x3 : o2 = s.os := mv.os
  subst x1 x2 x3
  refine wpAny_pure (wpAny_pure ⟨rfl, fin h2 tk2 ks S2 u fun b o e => mv.heap b o ?_ (Heap.get?_push_of_some _ (Heap.get?_push_of_some _ e))⟩)
  have lb := Heap.lt_size e
  intro z
  rcases List.mem_cons.mp z with z | z
  · exact absurd z (Nat.ne_of_lt lb)
  · have z := List.mem_singleton.mp z
    rw [sz] at z
    exact absurd z (Nat.ne_of_lt (Nat.lt_succ_of_lt lb))
end
end SetM
set_option linter.all false
set_option maxRecDepth 100000
namespace SetM
open PySem PyProof.Rows
end SetM
set_option linter.all false
set_option maxRecDepth 100000
namespace SetM
open PySem PyProof.Rows
inductive Fst (w : World) (a : Addr) (es : Array (Int × Value)) (ep : Nat) (t : SetTable) (h : Heap) : Nat → Value → List Value → Prop where
  | byText {i : Nat} {k : Int} {tk : Tok} : w.params.followText "set-order" = true → Fst w a es ep t h i (.int k tk) ((pickOrder (w.params.setOrder a ep) es).toList.map (·.2))
  | drawn {i : Nat} {T : Addr} {c : Nat} {ps : List Nat} : ps.Perm (List.range es.size) → h.get? T = some { cls := .type "tuple", data := .seq (ps.map fun (p : Nat) => rawInt p).toArray c } →
      Fst w a es ep t h i (.ref T) (ps.map fun p => (es.getD p (0, .none)).2)
  | plain {i : Nat} {tk : Tok} : w.params.followText "set-order" = false → (!t.plain && es.size > 1) = false → t.led = true → Fst w a es ep t h i (.int (if i = 0 then 0 else ((t.place.getD (i - 1) 0 + 1 : Nat) : Int)) tk) (es.toList.map (·.2))
section
variable {prog : Program} {w : World} {A : Around} {E : Value → Shared → Prop} {s : Shared} {a : Addr} {o : Obj} {es : Array (Int × Value)} {ep : Nat} {t : SetTable}
end
end SetM
set_option linter.all false
set_option maxRecDepth 100000
namespace SetM
open PySem PyProof.Rows
section
variable {w : World} {a : Addr} {es : Array (Int × Value)} {ep : Nat} {t : SetTable} {h : Heap} {i : Nat} {first : Value} {vs : List Value}
end
section
variable {prog : Program} {w : World} {A : Around} {E : Value → Shared → Prop} {s : Shared} {a I : Addr} {o : Obj} {es : Array (Int × Value)} {ep : Nat} {t : SetTable} {i : Nat} {first : Value} {vs : List Value}
theorem Fst.heap {h h1 : Heap} (F : Fst w a es ep t h i first vs) (k : ∀ T, first = .ref T → ∀ ob, h.get? T = some ob → h1.get? T = some ob) : Fst w a es ep t h1 i first vs := by
  cases F with
  | byText hb => exact .byText hb
  | drawn hp e => exact .drawn hp (k _ rfl _ e)
  | plain hb hp hl => exact .plain hb hp hl
end
end SetM
set_option linter.all false
set_option maxRecDepth 100000
namespace SetM
open PySem PyProof.Rows
section
variable {prog : Program} {w : World} {A : Around} {E : Value → Shared → Prop} {s : Shared} {a I : Addr} {o : Obj} {es : Array (Int × Value)} {ep : Nat} {t : SetTable} {vs : List Value}
end
end SetM
set_option linter.all false
set_option maxRecDepth 100000
namespace SetM
open PySem PyProof.Rows
section
variable {prog : Program} {w : World} {K : Type} [DecidableEq K] {knd : PySem.KeyKind prog w K} {A : Around} {E : Value → Shared → Prop} {s : Shared} {a : Addr}
end
end SetM
set_option Elab.async false
set_option linter.all false
set_option maxRecDepth 100000
namespace L2
open PySem PySem.Spec PyProof.Rows
def SetHO (P : Program) (w : World) (a : Addr) (us : List Key) : HO := .ext fun h => SetM.SetG (mixKind P w) h a us
theorem scan_kV {P : Program} {w : World} (k : Key) {v : Value} (r : RelV (kV k) v) : (mixKind P w).is k v = true ∧ v.scannable = true := by
  cases k with
  | inl i => obtain ⟨t, rfl⟩ := (show ∃ t, v = Value.int i t from r); exact ⟨keyIs_int i t, rfl⟩
  | inr x => obtain ⟨t, rfl⟩ := (show ∃ t, v = Value.str x t from r); exact ⟨keyIs_str x t, rfl⟩
theorem Inv.put {X : Cx} {pins : List (Addr × Obj)} {σ : St} {H : Hp} {s : Shared} {h' : Heap} {a : Addr} {o : HO} {t' : Nat} {d' : Drawn} (I : Inv X pins σ H s) (k : ∀ b u, s.heap.get? b = some u → h'.get? b = some u) (hp : s.heap.objs.size ≤ a) (new : ObjOk X.prog X.w (upd H a o) h' a o) :
    Inv X pins σ (upd H a o) { s with heap := h', toks := t', drawn := d' } :=
  I.call (g' := s.gens) (t' := t') (d' := d') (ch := []) (Un.laid k hp (I.hok.fresh hp)) (I.hok.laid k hp new) I.bare fun b z => absurd z List.not_mem_nil
section
variable {X : Cx}
theorem call_setK (hc : X.calm = true) : CallR X (.type "set") (fun xs H Q => ∃ (p : Addr) (ks : List Key), xs = [.ref p] ∧ SqL X.K H p (ks.map kV) ∧ ks.length + 1 < scanBound ∧
    ∀ (l : Addr) (us : List Key), H l = none → us.Nodup → (∀ x, x ∈ us ↔ x ∈ ks) → us.length ≤ ks.length → Q (.ref l) (upd H l (SetHO X.prog X.w l us))) := by
  intro pins s σ H xs us Q I r h
  obtain ⟨p, ks, rfl, hq, hz, q⟩ := h
  obtain ⟨u, rfl, rx⟩ := vals1 r
  cases rx
  obtain ⟨its, rv, pl, hzz⟩ := I.list hq
  have hl : its.toArray.size = ks.length := by rw [List.size_toArray, ← rv.length, List.length_map]
  refine SetM.call_set (knd := mixKind X.prog X.w) (val := fun i => ks.getD i (.inl 0)) (I.ok.hd hc) pl.isList (fun i v e => ?_) (by omega) fun h1 tk ws S u k1 => ?_
  · have e' : its[i]? = some v := by simpa using e
    have hi : i < ks.length := by
      have := (List.getElem?_eq_some_iff.mp e').1
      rw [List.size_toArray] at hl
      omega
    have e2 : (ks.map kV)[i]? = some (kV ks[i]) := by rw [List.getElem?_map, List.getElem?_eq_getElem hi]; rfl
    obtain ⟨v', g1, g2⟩ := rv.get e2
    rw [e'] at g1
    cases g1
    have e3 : ks.getD i (.inl 0) = ks[i] := by simp [hi]
    rw [e3]
    exact scan_kV _ g2
  · obtain ⟨o, ho, SO⟩ := id S
    have mem : ∀ x, x ∈ ws ↔ x ∈ ks := fun x => by
      rw [u.mem x, hl]
      constructor
      · rintro ⟨j, h1, h2⟩
        rw [← h2]
        have e3 : ks.getD j (.inl 0) = ks[j] := by simp [h1]
        rw [e3]
        exact List.getElem_mem h1
      · intro hx
        obtain ⟨j, h1, h2⟩ := List.mem_iff_getElem.mp hx
        exact ⟨j, h1, by simp [h1, h2]⟩
    refine ⟨.ref s.heap.objs.size, _, I.put (o := SetHO X.prog X.w s.heap.objs.size ws) (d' := s.drawn) k1 (Nat.le_refl _) ⟨S, ⟨o, ho⟩, fun h2 h3 x e => SetM.SetG.at' x e⟩, rfl, q _ ws (I.hok.fresh (Nat.le_refl _)) SO.nd mem ?_⟩
    have := u.len
    omega
end
end L2
set_option linter.all false
set_option maxRecDepth 100000
namespace ZipL
open PySem PySem.Calls PyProof.Rows PyProof.V PySem.Spec
abbrev ZAt (h : Heap) (z TI TO : Addr) (f0 f1 : Value) : Prop :=
  h.get? z = some { cls := .type "zip", dict := none, data := .fields #[f0, f1, .bool false, .ref TI, .ref TO], slots := #[] }
section
variable {prog : Program} {w : World} {A : Around} {E : Value → Shared → Prop} {s : Shared} {z TI TO T i1 i2 l1 l2 : Addr} {f : Bool} {oT : Obj} {k1 k2 : Nat} {xs ys : Array Value} {x y : Value}
structure ZSt (h : Heap) (z TI TO i1 i2 l1 l2 S : Addr) (xs ys : Array Value) (i : Nat) : Prop where
  at0 : ZAt h z TI TO .none (.bool false) ∨ ∃ (T : Addr) (f : Bool) (oT : Obj), ZAt h z TI TO (rawInt T) (.bool f) ∧ h.get? T = some oT ∧ T ≠ z ∧ T ≠ TO ∧ T ≠ i1 ∧ T ≠ i2 ∧ T ≠ S
  ti : IsPair h TI (.ref i1) (.ref i2)
  to : ∃ a b, IsPair h TO a b
  it1 : h.IsListIter i1 l1 i
  it2 : h.IsListIter i2 l2 i
  ls1 : h.IsList l1 xs
  ls2 : h.IsList l2 ys
theorem ZSt.keep {h h' : Heap} {S : Addr} {i : Nat} (q : ZSt h z TI TO i1 i2 l1 l2 S xs ys i) (k : ∀ c o, c ≠ S → h.get? c = some o → h'.get? c = some o) (hS : ∀ c ∈ [z, TI, TO, i1, i2, l1, l2], c ≠ S) : ZSt h' z TI TO i1 i2 l1 l2 S xs ys i where
  at0 := by
    have e := hS z (by simp)
    rcases q.at0 with a | ⟨T, f, oT, a, b, c⟩
    · exact .inl (k _ _ e a)
    · exact .inr ⟨T, f, oT, k _ _ e a, k _ _ c.2.2.2.2 b, c⟩
  ti := k _ _ (hS TI (by simp)) q.ti
  to := let ⟨a, b, e⟩ := q.to; ⟨a, b, k _ _ (hS TO (by simp)) e⟩
  it1 := q.it1.at fun o e => k _ o (hS i1 (by simp)) e
  it2 := q.it2.at fun o e => k _ o (hS i2 (by simp)) e
  ls1 := q.ls1.at fun o e => k _ o (hS l1 (by simp)) e
  ls2 := q.ls2.at fun o e => k _ o (hS l2 (by simp)) e
end
section
variable {prog : Program} {w : World} {A : Around} {R : Result → Shared → Prop} {E : Value → Shared → Prop} {s : Shared} {z TI TO i1 i2 l1 l2 S : Addr} {xs ys : Array Value}
structure Made (h : Heap) (lo : Addr) (xs ys : Array Value) (as : List Addr) : Prop where
  rise : as.Pairwise (· < ·)
  above : ∀ a ∈ as, lo ≤ a
  pairs : ∀ (j : Nat) (a : Addr), as[j]? = some a → ∃ x y, xs[j]? = some x ∧ ys[j]? = some y ∧ IsPair h a x y
theorem Made.there {h : Heap} {lo : Addr} {as : List Addr} (g : Made h lo xs ys as) {a : Addr} (ha : a ∈ as) : a < h.objs.size := by
  obtain ⟨j, hj⟩ := List.mem_iff_getElem?.mp ha
  obtain ⟨_, _, _, _, e⟩ := g.pairs j a hj
  exact Heap.lt_size e
theorem Made.keep {h h' : Heap} {lo : Addr} {as : List Addr} (g : Made h lo xs ys as) (k : ∀ c o, lo ≤ c → h.get? c = some o → h'.get? c = some o) : Made h' lo xs ys as :=
  ⟨g.rise, g.above, fun j a e => by
    obtain ⟨x, y, e1, e2, e3⟩ := g.pairs j a e
    exact ⟨x, y, e1, e2, k a _ (g.above a (List.mem_of_getElem? e)) e3⟩⟩
end
end ZipL
set_option Elab.async false
set_option linter.all false
set_option maxRecDepth 100000
namespace L2
open PySem PySem.Spec PyProof.Rows
section
variable {X : Cx} {pins : List (Addr × Obj)} {σ : St} {H H' : Hp} {s : Shared} {h' : Heap}
end
def AtPairs (H : Hp) : List Addr → List V → List V → Prop
  | [], xs, ys => xs = [] ∨ ys = []
  | a :: as, xs, ys => ∃ x xr y yr, xs = x :: xr ∧ ys = y :: yr ∧ H a = some (.tup [x, y]) ∧ AtPairs H as xr yr
theorem AtPairs.of {H : Hp} : ∀ {as : List Addr} {xs ys : List V}, as.length = min xs.length ys.length → (∀ (j : Nat) (a : Addr), as[j]? = some a → ∃ x y, xs[j]? = some x ∧ ys[j]? = some y ∧ H a = some (.tup [x, y])) → AtPairs H as xs ys
  | [], xs, ys, hl, _ => by
    cases xs with
    | nil => exact .inl rfl
    | cons x xr =>
      cases ys with
      | nil => exact .inr rfl
      | cons y yr => simp at hl
  | a :: as, xs, ys, hl, h => by
    cases xs with
    | nil => simp at hl
    | cons x xr =>
      cases ys with
      | nil => simp at hl
      | cons y yr =>
        obtain ⟨x', y', e1, e2, e3⟩ := h 0 a rfl
        simp only [List.getElem?_cons_zero, Option.some.injEq] at e1 e2
        subst e1 e2
        refine ⟨x, xr, y, yr, rfl, rfl, e3, AtPairs.of (by simp only [List.length_cons] at hl; omega) fun j b e => ?_⟩
        obtain ⟨x'', y'', q1, q2, q3⟩ := h (j + 1) b (by simpa using e)
        exact ⟨x'', y'', by simpa using q1, by simpa using q2, q3⟩
section
variable {X : Cx} {x y : Str} {p p2 pos pos2 : Pos} {a b : Expr} {t : TA}
end
end L2
set_option Elab.async false
set_option linter.all false
set_option maxRecDepth 100000
namespace L2
open PySem PySem.Spec PyProof.Rows
def Fn (P : Program) (w : World) (K : PySem.W.Frag) (mg : Str → Option Value) (base : Heap) (k : Nat) (x : Str) (ps : List Str) (sp : Sp) : Prop :=
  ∃ f fd, FnOk P w K mg base CX0 k f fd ps sp ∧ Binds K fd ps [] ∧ PySem.W.keepIn K (.ref f) = true ∧ mg x = some (.ref f)
section
variable {X : Cx} {k : Nat} {x : Str} {ps : List Str} {sp : Sp} {p pos : Pos} {e : Expr} {es : List Expr} {t : TA}
theorem pe_callF (G : Fn X.prog X.w X.K X.mg X.base k x ps sp) (hr : Room k X.A) (hg : Gl X x) (ha : PA X (e :: es) t) (hdb : (x == ("__debug__" : Str)) = false := by decide)
    (he : starEach (e :: es) X.env = (false, eval e X.env) :: starEach es X.env := by rfl) (hpl : (backTo pos (starEach es X.env)).any (·.1) = false := by rfl) :
    PE X (.Call (.Name x p) (e :: es) [] pos) (tCall sp [] E0 t) := by
  obtain ⟨f, fd, F, b, kp, m⟩ := G
  exact pe_call F hr hg m kp b .nil pass0 ha hdb he hpl
theorem FnOk.any {P : Program} {w : World} {K : PySem.W.Frag} {mg : Str → Option Value} {base : Heap} {CX : CXT} {k : Nat} {f : Addr} {fd : FuncData} {ps : List Str} {ι : Type} {C : ι → Prop} {sp : ι → Sp} (h : ∀ i, C i → FnOk P w K mg base CX k f fd ps (sp i)) :
    FnOk P w K mg base CX k f fd ps (fun vs H Q E => ∃ i, C i ∧ sp i vs H Q E) :=
  ⟨fun vs H Q E ⟨i, c, q⟩ => (h i c).len vs H Q E q, fun A outer s H args us vs Q E hr he hb hv ⟨i, c, q⟩ => (h i c).run A outer s H args us vs Q E hr he hb hv q⟩
end
def Up (K : PySem.W.Frag) (H H' : Hp) : Prop := ∀ a xs, SqT K H a xs → SqT K H' a xs
theorem Up.refl {K : PySem.W.Frag} (H : Hp) : Up K H H := fun _ _ h => h
theorem Up.trans {K : PySem.W.Frag} {H H1 H2 : Hp} (a : Up K H H1) (b : Up K H1 H2) : Up K H H2 := fun c xs h => b c xs (a c xs h)
theorem Same.up {K : PySem.W.Frag} {H H' : Hp} (e : Same H H') : Up K H H' := fun a xs h => by
  rcases h with (h | ⟨o, h⟩) | h
  · exact .inl (.inl (e _ _ h))
  · exact .inl (.inr ⟨o, e _ _ h⟩)
  · exact .inr h
theorem Same.put {H H1 : Hp} {p : Addr} {o : HO} (e : Same H H1) (h : H p = none) : Same H (upd H1 p o) := fun b u q => by
  rw [upd_ne (ne_of_none q h)]; exact e b u q
mutual
def noL : D → Bool
  | .tup xs => noLs xs
  | .lst _ => false
  | _ => true
def noLs : List D → Bool
  | [] => true
  | d :: ds => noL d && noLs ds
end
mutual
theorem IsD.up {K : PySem.W.Frag} {H H' : Hp} (u : Up K H H') : ∀ (d : D) (v : V), noL d = true → IsD K H d v → IsD K H' d v
  | .non, v, _, h => h
  | .bl b, v, _, h => h
  | .int i, v, _, h => h
  | .str x, v, _, h => h
  | .tup ds, v, n, h => by
    obtain ⟨a, vs, e, q, r⟩ := h
    exact ⟨a, vs, e, u a vs q, AreD.up u ds vs (by simpa [noL] using n) r⟩
  | .lst ds, v, n, h => by simp [noL] at n
theorem AreD.up {K : PySem.W.Frag} {H H' : Hp} (u : Up K H H') : ∀ (ds : List D) (vs : List V), noLs ds = true → AreD K H ds vs → AreD K H' ds vs
  | [], vs, _, h => h
  | d :: ds, vs, n, h => by
    obtain ⟨v, r, e, q, t⟩ := h
    have n' : noL d = true ∧ noLs ds = true := by simpa [noLs] using n
    exact ⟨v, r, e, IsD.up u d v n'.1 q, AreD.up u ds r n'.2 t⟩
end
theorem noLs_all : ∀ {ds : List D}, (∀ d ∈ ds, noL d = true) → noLs ds = true
  | [], _ => rfl
  | d :: ds, h => by
    simp only [noLs, Bool.and_eq_true]
    exact ⟨h d List.mem_cons_self, noLs_all fun e m => h e (List.mem_cons_of_mem _ m)⟩
theorem AreD.append {K : PySem.W.Frag} {H : Hp} : ∀ {ds es : List D} {vs ws : List V}, AreD K H ds vs → AreD K H es ws → AreD K H (ds ++ es) (vs ++ ws)
  | [], es, vs, ws, h, h' => by
    have e : vs = [] := h
    subst e
    exact h'
  | d :: ds, es, vs, ws, h, h' => by
    obtain ⟨v, r, e, q, t⟩ := h
    subst e
    exact ⟨v, r ++ ws, rfl, q, AreD.append t h'⟩
theorem AreD.one {K : PySem.W.Frag} {H : Hp} {d : D} {v : V} (h : IsD K H d v) : AreD K H [d] [v] := ⟨v, [], rfl, h, rfl⟩
theorem AreD.take {K : PySem.W.Frag} {H : Hp} : ∀ {ds : List D} {vs : List V} (n : Nat), AreD K H ds vs → AreD K H (ds.take n) (vs.take n)
  | ds, vs, 0, _ => rfl
  | [], vs, n + 1, h => by
    have e : vs = [] := h
    subst e
    rfl
  | d :: ds, vs, n + 1, h => by
    obtain ⟨v, r, e, q, t⟩ := h
    subst e
    exact ⟨v, r.take n, rfl, q, AreD.take n t⟩
def pairsD : List D → List D → List D
  | a :: as, b :: bs => .tup [a, b] :: pairsD as bs
  | _, _ => []
def Feed (H : Hp) (l : Addr) : Prop := ∃ a b c d : Int, H l = some (.lst [.int a, .int b, .int c, .int d])
structure Step (l : Addr) (H H' : Hp) : Prop where
  keep : ∀ x o, x ≠ l → H x = some o → H' x = some o
  feed : Feed H' l
theorem Step.refl {l : Addr} {H : Hp} (f : Feed H l) : Step l H H := ⟨fun _ _ _ h => h, f⟩
theorem Step.trans {l : Addr} {H H1 H2 : Hp} (a : Step l H H1) (b : Step l H1 H2) : Step l H H2 := ⟨fun x o n h => b.keep x o n (a.keep x o n h), b.feed⟩
theorem Step.free {l : Addr} {H H' : Hp} (a : Step l H H') (f : Feed H l) {p : Addr} (h : H' p = none) : H p = none := by
  cases q : H p with
  | none => rfl
  | some o =>
    by_cases e : p = l
    · obtain ⟨_, _, _, _, z⟩ := a.feed
      rw [e, z] at h
      cases h
    · rw [a.keep p o e q] at h
      cases h
theorem Feed.put {l p : Addr} {H : Hp} {o : HO} (f : Feed H l) (h : p ≠ l) : Feed (upd H p o) l := by
  obtain ⟨a, b, c, d, e⟩ := f
  exact ⟨a, b, c, d, by rw [upd_ne h.symm]; exact e⟩
theorem Feed.ne {l p : Addr} {H : Hp} (f : Feed H l) (h : H p = none) : p ≠ l := fun e => by
  obtain ⟨a, b, c, d, q⟩ := f
  rw [e, q] at h
  cases h
theorem Step.put {l p : Addr} {H H' : Hp} {o : HO} (a : Step l H H') (n : p ≠ l) (h : H p = none) : Step l H (upd H' p o) :=
  ⟨fun x u q e => by rw [upd_ne (ne_of_none e h)]; exact a.keep x u q e, a.feed.put n⟩
theorem Step.same {l : Addr} {H H1 H2 : Hp} (a : Step l H H1) (b : Same H1 H2) : Step l H H2 :=
  ⟨fun x o n h => b _ _ (a.keep x o n h), let ⟨x, y, z, u, e⟩ := a.feed; ⟨x, y, z, u, b _ _ e⟩⟩
theorem Step.up {K : PySem.W.Frag} {l : Addr} {H H' : Hp} (a : Step l H H') (f : Feed H l) : Up K H H' := fun c xs h => by
  have ne : ∀ o, H c = some o → (∀ ys, o ≠ .lst ys) → c ≠ l := fun o e n q => by
    obtain ⟨_, _, _, _, z⟩ := f
    rw [q, z] at e
    cases e
    exact n _ rfl
  rcases h with (h | ⟨o, h⟩) | h
  · exact .inl (.inl (a.keep _ _ (ne _ h fun _ z => nomatch z) h))
  · exact .inl (.inr ⟨o, a.keep _ _ (ne _ h fun _ z => nomatch z) h⟩)
  · exact .inr h
theorem up_set {K : PySem.W.Frag} {H : Hp} {p : Addr} {o : HO} {ys : List V} (h : H p = some (.lst ys)) : Up K H (upd H p o) := fun c xs q => by
  have ne : ∀ u, H c = some u → (∀ ys, u ≠ .lst ys) → c ≠ p := fun u e n z => by
    rw [z, h] at e
    cases e
    exact n _ rfl
  rcases q with (q | ⟨u, q⟩) | q
  · exact .inl (.inl (by rw [upd_ne (ne _ q fun _ z => nomatch z)]; exact q))
  · exact .inl (.inr ⟨u, by rw [upd_ne (ne _ q fun _ z => nomatch z)]; exact q⟩)
  · exact .inr q
structure Good where
  whole : Int → Prop
  text : Str → Prop
  name : Str → Prop
  num : Int → Prop
  names : List Str → Prop
  nums : List Int → Prop
def Itm (G : Good) : Nat → D → Prop
  | 0, _ => False
  | k + 1, d => (∃ n, d = .tup [.str "whole", .int n] ∧ G.whole n) ∨ (∃ x, d = .tup [.str "text", .str x] ∧ G.text x) ∨
      (∃ n e, d = .tup [.str "arm", .int n, e] ∧ G.num n ∧ Itm G k e) ∨ (∃ es, d = .tup [.str "row", .tup es] ∧ es.length ≤ 3 ∧ ∀ e ∈ es, Itm G k e) ∨
      (∃ ks es, d = .tup [.str "map", .tup (pairsD (ks.map D.str) es)] ∧ ks.length = es.length ∧ es.length ≤ 3 ∧ G.names ks ∧ ∀ e ∈ es, Itm G k e) ∨
      (∃ ks es, d = .tup [.str "rec", .tup (pairsD (ks.map D.int) es)] ∧ ks.length = es.length ∧ es.length ≤ 3 ∧ G.nums ks ∧ ∀ e ∈ es, Itm G k e)
theorem noLs_pairs : ∀ {as bs : List D}, (∀ d ∈ as, noL d = true) → (∀ d ∈ bs, noL d = true) → noLs (pairsD as bs) = true
  | [], _, _, _ => by simp [pairsD, noLs]
  | _ :: _, [], _, _ => by simp [pairsD, noLs]
  | a :: as, b :: bs, h1, h2 => by
    have r := noLs_pairs (as := as) (bs := bs) (fun d m => h1 d (List.mem_cons_of_mem _ m)) fun d m => h2 d (List.mem_cons_of_mem _ m)
    simp only [pairsD, noLs, noL, h1 a List.mem_cons_self, h2 b List.mem_cons_self, r, Bool.and_self]
theorem Itm.noL {G : Good} : ∀ {k : Nat} {d : D}, Itm G k d → noL d = true
  | 0, _, h => h.elim
  | k + 1, d, h => by
    rcases h with ⟨n, rfl, _⟩ | ⟨x, rfl, _⟩ | ⟨n, e, rfl, _, i⟩ | ⟨es, rfl, _, i⟩ | ⟨ks, es, rfl, _, _, _, i⟩ | ⟨ks, es, rfl, _, _, _, i⟩
    · rfl
    · rfl
    · simp only [L2.noL, noLs, Bool.true_and, Bool.and_true]; exact Itm.noL i
    · simp only [L2.noL, noLs, Bool.true_and, Bool.and_true]; exact noLs_all fun e m => Itm.noL (i e m)
    · simp only [L2.noL, noLs, Bool.true_and, Bool.and_true]
      refine noLs_pairs (fun d m => ?_) fun e m => Itm.noL (i e m)
      obtain ⟨x, _, rfl⟩ := List.mem_map.mp m
      rfl
    · simp only [L2.noL, noLs, Bool.true_and, Bool.and_true]
      refine noLs_pairs (fun d m => ?_) fun e m => Itm.noL (i e m)
      obtain ⟨x, _, rfl⟩ := List.mem_map.mp m
      rfl
theorem Itm.noLs {G : Good} {k : Nat} {ds : List D} (h : ∀ d ∈ ds, Itm G k d) : noLs ds = true := noLs_all fun d m => (h d m).noL
end L2
set_option Elab.async false
set_option linter.all false
set_option maxRecDepth 100000
namespace L2
open PySem PySem.Spec PyProof.Rows
section
variable {X : Cx}
theorem ps_setI (i : Nat) {x : Str} {e : Expr} {te : TE} {pos pos' : Pos} (hN : X.N.Nodup) (hi : X.N[i]? = some x) (hx : Loc X.env.scope x) (he : PE X e te)
    (hs : swapsWith e (some (.Name x pos')) pos.line X.env = pure false := by rfl) (hf : X.fn x = true ∨ X.env.scope.names.lookup x = some .local := by first | exact .inl rfl | exact .inr rfl | assumption) :
    PS X (.Assign [.Name x pos'] e pos) (tAsg te (gName i)) := ps_set hN hi hx he hs hf
theorem pg_nameI (i : Nat) {x : Str} {pos : Pos} (hN : X.N.Nodup) (hi : X.N[i]? = some x) (hx : Loc X.env.scope x)
    (hf : X.fn x = true ∨ X.env.scope.names.lookup x = some .local := by first | exact .inl rfl | exact .inr rfl | assumption) : PG X (.Name x pos) (gName i) := pg_name hN hi hx hf
theorem pe_globR {x : Str} {C : Addr} {pos : Pos} (hg : Gl X x) (hm : X.mg x = some (.ref C)) (hd : (x == ("__debug__" : Str)) = false := by decide) : PE X (.Name x pos) (tC (.ref C)) := pe_glob hg hm rfl hd
theorem pe_bltnT {T : String} {x : Str} {pos : Pos} (hg : Gl X x) (hm : X.mg x = none) (hv : bootBuiltins x = some (.type T)) (hn : x ≠ "__name__" := by decide) (hd : (x == ("__debug__" : Str)) = false := by decide) :
    PE X (.Name x pos) (tC (.ty T)) := pe_bltn hg hm hv rfl hn hd
theorem pe_compI (NX : List Str) (outer : Scope) (N : List Str) (fr : List (Option Nat)) {scope : Scope} {tg elt iter : Expr} {ifs : List Expr} {pos : Pos} {wi : TI} {g : DG} {tt : DT} {te : DE} (hc : X.calm = true) (hi : PI X tg iter wi)
    (C : CompFr X NX outer scope N fr) (hg : ∀ fp s H, PG (cxComp X scope N fp s H) tg (g fp s H)) (ht : ∀ fp s H, PTs (cxComp X scope N fp s H) ifs (tt fp s H)) (he : ∀ fp s H, PE (cxComp X scope N fp s H) elt (te fp s H))
    (hs : ∀ x, foldedSetIterable iter X.env x = pure x := by intro _; rfl) : PE X (.ListComp elt [⟨tg, iter, ifs, 0⟩] scope pos) (tComp wi fr g tt te) := pe_comp hc hi C hg ht he hs
theorem ps_setCompI (i : Nat) (NX : List Str) (outer : Scope) (N : List Str) (fr : List (Option Nat)) {scope : Scope} {tg elt iter : Expr} {ifs : List Expr} {pos pos' pos2 : Pos} {wi : TI} {g : DG} {tt : DT} {te : DE} {x : Str} (hN : X.N.Nodup) (hix : X.N[i]? = some x)
    (hx : Loc X.env.scope x) (hc : X.calm = true) (hi : PI X tg iter wi) (C : CompFr X NX outer scope N fr) (hg : ∀ fp s H, PG (cxComp X scope N fp s H) tg (g fp s H)) (ht : ∀ fp s H, PTs (cxComp X scope N fp s H) ifs (tt fp s H))
    (he : ∀ fp s H, PE (cxComp X scope N fp s H) elt (te fp s H)) (hsw : swapsWith (.ListComp elt [⟨tg, iter, ifs, 0⟩] scope pos) (some (.Name x pos')) pos2.line X.env = pure true := by rfl)
    (hs : ∀ x, foldedSetIterable iter X.env x = pure x := by intro _; rfl) (hf : X.fn x = true ∨ X.env.scope.names.lookup x = some .local := by first | exact .inl rfl | exact .inr rfl | assumption) :
    PS X (.Assign [.Name x pos'] (.ListComp elt [⟨tg, iter, ifs, 0⟩] scope pos) pos2) (tAsg (tComp wi fr g tt te) (gName i)) := ps_setComp hN hix hx hc hi C hg ht he hsw hs hf
end
end L2
set_option Elab.async false
set_option linter.all false
set_option maxRecDepth 100000
namespace DctE
open PySem PySem.SeqAt PySem.MeetsSeq
open PySem.AutoSeq1 (wpAny_loadPart')
theorem dict_declines (l : Addr) (es : Array DictEntry) (ep : Nat) (dd : Option Addr) (sl : Array (Option Value)) (b : Str) (u : Tok) :
    Meets (Builtin.«dict.__eq__» ⟨[.ref l, .str b u], []⟩) (fun _ R s => s.heap.get? l = some { cls := .type "dict", dict := dd, data := .dict es ep, slots := sl } ∧ R (.ok (.ret .notImplemented)) s) :=
  .of_wp fun prog w A R s h => by obtain ⟨hp, g, d, tk, os⟩ := s; obtain ⟨hl, h⟩ := h; have f1 := F.sub_str_dict; wp_walk using wpAny_loadPart' hl; exact ⟨_, rfl, h⟩
theorem str_declines (b : Str) (u : Tok) (l : Addr) (c : Value) (es : Array DictEntry) (ep : Nat) (dd : Option Addr) (sl : Array (Option Value)) :
    Meets (Builtin.«str.__eq__» ⟨[.str b u, .ref l], []⟩) (fun _ R s => s.heap.get? l = some { cls := c, dict := dd, data := .dict es ep, slots := sl } ∧ R (.ok (.ret .notImplemented)) s) :=
  .of_wp fun prog w A R s h => by obtain ⟨hp, g, d, tk, os⟩ := s; obtain ⟨hl, h⟩ := h; wp_walk using wpAny_loadPart' hl, wpAny_load hl; exact ⟨_, rfl, h⟩
theorem rc_dict_str {A : Around} {s : Shared} {l : Addr} {es : Array DictEntry} {ep : Nat} {dd : Option Addr} {sl : Array (Option Value)} (b : Str) (u : Tok) (ho : s.heap.get? l = some { cls := .type "dict", dict := dd, data := .dict es ep, slots := sl }) (hu : A.units < cLine) :
    RcAt A s (.ref l) (.str b u) false := fun prog w E Q h => by
  exact rc_eq_decline_or (k := false) ⟨_, ho, rfl⟩ (typeIs_str s b u) (by decide) F.sub_str_dict F.slot_dict_eq F.slot_str_eq_refl
    (fun _ hq => call_meets F.slot_dict_eq ⟨_, ho, rfl⟩ F.entry_dict_eq (F.args_dict_eq_2 _ _) (dict_declines l es ep dd sl b u) ⟨ho, hq⟩)
    (fun _ hq => call_meets F.slot_str_eq_refl (typeIs_str s b u) F.entry_str_eq (F.args_str_eq_2 _ _) (str_declines b u l (.type "dict") es ep dd sl) ⟨ho, hq⟩)
    (fun _ hq => wpAny_of_eq (rfl : isSame (.ref l) (.str b u) = pure false) hq) (.inr hu) h
end DctE
set_option Elab.async false
set_option linter.all false
set_option maxRecDepth 100000
namespace L2
open PySem PySem.Spec PyProof.Rows
section
variable {X : Cx} {pins : List (Addr × Obj)} {σ : St} {H H' : Hp} {s : Shared} {h' : Heap}
theorem Inv.turnLay {t' : Nat} {fp : List Addr} {a : Addr} {o : HO} (I : Inv X pins σ H s) (k : ∀ b u, b ∉ fp → s.heap.get? b = some u → h'.get? b = some u) (hf : ∀ b ∈ fp, FpOk X pins H b) (hp : s.heap.objs.size ≤ a) (new : ObjOk X.prog X.w (upd H a o) h' a o) :
    Inv X pins σ (upd H a o) { s with heap := h', toks := t' } := by
  have hn := I.hok.fresh hp
  have nf : ∀ b u, H b = some u → b ∉ fp := fun b u e m => by
    have z := (hf b m).1
    rw [e] at z
    cases z
  have na : ∀ b u, s.heap.get? b = some u → b ≠ a := fun b u e => Nat.ne_of_lt (Nat.lt_of_lt_of_le (Heap.lt_size e) hp)
  refine I.call (g' := s.gens) (d' := s.drawn) (ch := fp) ⟨fun b u e _ _ hx => k b u hx e, fun b u e _ _ hx => ⟨u.slots, k b u hx e⟩, fun b u e n _ => by rw [upd_ne (na b u e)]; exact n, fun b u e hx => ⟨u, k b u hx e⟩,
    fun b xs e => by rw [upd_ne (ne_of_none e hn)]; exact e, fun b ob u e => by rw [upd_ne (ne_of_none e hn)]; exact e, fun b ps e => ⟨#[], by rw [upd_ne (ne_of_none e hn)]; simp [e]⟩⟩ (fun b u e => ?_) I.bare
    fun b hb => ⟨(hf b hb).2.2.2.1, (hf b hb).2.1, (hf b hb).2.2.2.2.1, (hf b hb).2.2.2.2.2⟩
  by_cases hb : b = a
  · subst hb
    rw [upd_same] at e
    cases e
    exact new
  · rw [upd_ne hb] at e
    refine (I.hok b u e).stay (fun c v hc q => k c v ?_ q) (fun c q => by rw [upd_ne (ne_of_none q hn)]; exact q) fun c xs q => by rw [upd_ne (ne_of_none q hn)]; exact q
    rcases hc with z | z
    · rw [z]; exact nf b u e
    · exact nf c _ z
theorem Inv.turnL {t' : Nat} {fp : List Addr} (I : Inv X pins σ H s) (k : ∀ b u, b ∉ fp → s.heap.get? b = some u → h'.get? b = some u) (hf : ∀ b ∈ fp, FpOk X pins H b) :
    Inv X pins σ H { s with heap := h', toks := t' } := by
  have nf : ∀ b u, H b = some u → b ∉ fp := fun b u e m => by
    have z := (hf b m).1
    rw [e] at z
    cases z
  refine I.call (g' := s.gens) (d' := s.drawn) (ch := fp) ⟨fun b u e _ _ hx => k b u hx e, fun b u e _ _ hx => ⟨u.slots, k b u hx e⟩, fun b u e n _ => n, fun b u e hx => ⟨u, k b u hx e⟩,
    fun b xs e => e, fun b ob u e => e, fun b ps e => ⟨#[], by simp [e]⟩⟩ (fun b u e => ?_) I.bare
    fun b hb => ⟨(hf b hb).2.2.2.1, (hf b hb).2.1, (hf b hb).2.2.2.2.1, (hf b hb).2.2.2.2.2⟩
  refine (I.hok b u e).stay (fun c v hc q => k c v ?_ q) (fun c q => q) fun c xs q => q
  rcases hc with z | z
  · rw [z]; exact nf b u e
  · exact nf c _ z
end
section
variable {X : Cx} {pos : Pos}
def tDct0 : TE := fun _ H Q => ∀ p, H p = none → Q (.ref p) (upd H p (.dK []))
theorem pe_dct0 : PE X (.Dict [] [] pos) tDct0 := fun pins s σ H Q I h =>
  wpAny_Dict_empty ⟨.ref s.heap.objs.size, _, I.laid (a := s.heap.objs.size) (o := .dK []) (t' := s.toks) (fun _ _ q => Heap.get?_push_of_some _ q) (Nat.le_refl _)
    ⟨Nat.zero_le _, beq_eq_false_iff_ne.mpr (Ne.symm (Nat.ne_of_lt (Nat.lt_trans (by decide) (I.mod.glob.keeps I.bk).lt))), [], .nil, Heap.DictOf.new s.heap⟩, rfl, h _ (I.hok.fresh (Nat.le_refl _))⟩
theorem all_range (bs : List Bool) : ((List.range bs.length).all fun i => (bs[i]?).getD true) = bs.all id := by
  rw [Bool.eq_iff_iff, List.all_eq_true, List.all_eq_true]
  constructor
  · intro h b hb
    obtain ⟨i, hi⟩ := List.mem_iff_getElem?.mp hb
    have := h i (List.mem_range.mpr (List.getElem?_eq_some_iff.mp hi).1)
    rw [hi] at this
    simpa using this
  · intro h i hi
    have hi' := List.mem_range.mp hi
    rw [List.getElem?_eq_getElem hi']
    simpa using h _ (List.getElem_mem hi')
theorem call_allB (hc : X.calm = true) : CallR X (.builtin "all") (fun xs H Q => ∃ (p : Addr) (bs : List Bool), xs = [.ref p] ∧ SqL X.K H p (bs.map V.bl) ∧ Q (.bl (bs.all id)) H) := by
  intro pins s σ H xs us Q I r h
  obtain ⟨p, bs, rfl, hq, q⟩ := h
  obtain ⟨u, rfl, rx⟩ := vals1 r
  cases rx
  obtain ⟨its, rv, pl, hz⟩ := I.list hq
  have hl := pl.isList
  have hlt : p < s.heap.objs.size := by obtain ⟨_, e, _⟩ := hl; exact Heap.lt_size e
  have hlen : its.toArray.size = bs.length := by rw [List.size_toArray, ← rv.length, List.length_map]
  refine call_all_walk (wpAny_pyIter_list hl ?_)
  refine ⟨s.heap.objs.size, [s.heap.objs.size, p], [s.heap.objs.size], its.toArray.size, _, _, fun i => (bs[i]?).getD true, rfl, Walks.list (A := X.A.in1) (I.ok.hd hc) _ p (Nat.ne_of_lt hlt) its.toArray,
    ⟨⟨_, Heap.get?_push_size _ rfl, rfl, rfl⟩, hl.push _⟩, fun i v s' Q' E' hP hQ => ?_, fun h' tk hk => ?_⟩
  · have e0 : its[i]? = some v := by simpa using hP
    have hi : i < bs.length := by
      have := (List.getElem?_eq_some_iff.mp e0).1
      rw [List.size_toArray] at hlen
      omega
    obtain ⟨v', e1, e2⟩ := rv.get (i := i) (x := V.bl bs[i]) (by rw [List.getElem?_map, List.getElem?_eq_getElem hi]; rfl)
    rw [e0] at e1
    cases e1
    cases e2
    dsimp only at hQ
    rw [List.getElem?_eq_getElem hi] at hQ
    exact wpAny_truthy_bool hQ
  · rw [hlen, all_range]
    refine ⟨.bl _, H, I.kept fun b x e => hk b x (fun hm => ?_) (Heap.get?_push_of_some _ e), rfl, q⟩
    rw [List.mem_singleton.mp hm] at e
    exact Nat.lt_irrefl _ (Heap.lt_size e)
def repS (i : Str) (n : Nat) : Str := ⟨(List.replicate n i.cps).foldl (· ++ ·) #[]⟩
theorem rep_go (a : Array Nat) : ∀ (n : Nat) (acc : Array Nat), ((List.replicate n a).foldl (· ++ ·) acc).toList = acc.toList ++ (List.replicate n a.toList).flatten
  | 0, acc => by simp
  | n + 1, acc => by
    rw [List.replicate_succ, List.foldl_cons, rep_go a n (acc ++ a), List.replicate_succ, List.flatten_cons, Array.toList_append, List.append_assoc]
theorem repS_codes (i : Str) (n : Nat) : (repS i n).cps.toList = (List.replicate n i.cps.toList).flatten := by
  show ((List.replicate n i.cps).foldl (· ++ ·) #[]).toList = _
  rw [rep_go]
  rfl
theorem repS_len (i : Str) (n : Nat) : (repS i n).length = n * i.length := by
  show (repS i n).cps.size = n * i.cps.size
  rw [← Array.length_toList, repS_codes, len_rep, Array.length_toList]
theorem op_repS : OpR X (binaryOp .Mult) (fun x y H Q => ∃ (i : Str) (n : Int), x = .str i ∧ y = .int n ∧ 2 ≤ n ∧ n ≤ 1000 ∧ i.length ≠ 0 ∧ i.length ≤ 1000 ∧ Q (.str (repS i n.toNat)) H) := by
  intro pins s σ H x y v u Q I rx ry h
  obtain ⟨i, n, rfl, rfl, n2, n1, i0, i1, q⟩ := h
  obtain ⟨t, rfl⟩ := rx
  obtain ⟨t', rfl⟩ := ry
  have c1 : ¬ n < 1 := by omega
  have c2 : (n == 1 || i.length == 0) = false := by
    rw [Bool.or_eq_false_iff]
    exact ⟨beq_eq_false_iff_ne.mpr (by omega), beq_eq_false_iff_ne.mpr i0⟩
  have hm : i.length * n.toNat ≤ 1000000 := Nat.le_trans (Nat.mul_le_mul i1 (show n.toNat ≤ 1000 by omega)) (by decide)
  refine PySem.P.mul_str ?_ (fun _ _ => ?_) (fun _ _ => ?_) ?_
  · rw [Bool.or_eq_false_iff]
    exact ⟨decide_eq_false (by omega), decide_eq_false (by omega)⟩
  · intro z
    have hn0 : (0 : Int) < n := by omega
    have h1 : (1000 : Int) * n ≤ 2 ^ 63 - 1 := by omega
    have h2 := (Int.le_ediv_iff_mul_le hn0).mpr h1
    omega
  · show decide (i.length * n.toNat > sizeLine) = false
    exact decide_eq_false (Nat.not_lt_of_le (Nat.le_trans hm (by decide)))
  · rw [if_neg c1, if_neg (by rw [c2]; decide)]
    have hl : (repS i n.toNat).length ≤ sizeLine := by rw [repS_len, Nat.mul_comm]; exact Nat.le_trans hm (by decide)
    exact ⟨hl, ⟨.str _, H, I.tok _, ⟨_, rfl⟩, q⟩⟩
end
end L2
set_option Elab.async false
set_option linter.all false
set_option maxRecDepth 100000
namespace L2
open PySem PySem.Spec PyProof.Rows
def Its (x : Str) : It := ⟨fun i _ => i < x.cps.size, fun i H v H' => H' = H ∧ ∃ c, x.cps[i]? = some c ∧ v = .str ⟨#[c]⟩, fun i _ => x.cps.size ≤ i⟩
theorem turn_str {P : Program} {w : World} {K : PySem.W.Frag} {tg : Expr} (x : Str) (it : Addr) (T : String) (t : Tok) (hT : ["enumerate", "zip", "dict_itemiterator", "dict_reverseitemiterator", "odict_iterator", "itertools.zip_longest", "itertools.pairwise"].contains T = false)
    (W : ∀ A : Around, A.handled = none → Walks P w A it [it] [it] x.cps.size (SignAt x) (fun i h => h.IsStrIter it T x t i)) (hs : ∀ (A : Around) (i : Nat) (s : Shared) (Q : Value → Shared → Prop) (E : Value → Shared → Prop), s.heap.IsStrIter it T x t i → Q (.ref it) s → wpAny (model P w) A (pyIter (.ref it)) Q E s)
    (hd : ∀ (A : Around) (i : Nat) (s : Shared) (Q : Option Value → Shared → Prop) (E : Value → Shared → Prop), A.handled = none → x.cps.size ≤ i → s.heap.IsStrIter it T x t i → (∀ h' tk, (∀ b o, b ≠ it → s.heap.get? b = some o → h'.get? b = some o) → Q none { s with heap := h', toks := tk }) → wpAny (model P w) A (pyNext (.ref it)) Q E s) :
    Turn P w K tg (Its x) [it] it (fun i h => h.IsStrIter it T x t i) where
  mem := by simp
  obj := fun i h st b hb => by
    have e : b = it := by simpa using hb
    subst e
    obtain ⟨o, e, c, d⟩ := st
    exact ⟨o, e, fun v z => by rw [d] at z; cases z⟩
  keep := fun i h h' st k => let ⟨o, ho, r⟩ := st; ⟨o, k it (by simp) o ho, r⟩
  item := by
    intro X hP hw hK hc i pins s σ H E I hf st hg
    subst hP hw hK
    obtain ⟨f0, f1, f2, f3, f4, f5⟩ := hf it (by simp)
    refine (W X.A (I.ok.hd hc)).item i s _ _ hg st fun v h' tk hv st' kk => ?_
    obtain ⟨c, u, hc', rfl⟩ := hv
    have I1 : Inv X pins σ H { s with heap := h', toks := tk } := I.turned (fun b o hb e => kk b o (by simpa using hb) e) f0 f1 f3 f4 f5
    obtain ⟨o, e, c1, d⟩ := id st'
    exact ⟨_, rfl, go_of (s := { s with heap := h', toks := tk }) e c1 d hT ⟨.str ⟨#[c]⟩, H, I1, ⟨u, rfl⟩, ⟨rfl, c, hc', rfl⟩, st', fun b hb => (hf b hb).1⟩⟩
  done := by
    intro X hP hw hK hc i pins s σ H E I hf st hg
    subst hP hw hK
    obtain ⟨f0, f1, f2, f3, f4, f5⟩ := hf it (by simp)
    exact hd X.A i s _ _ (I.ok.hd hc) hg st fun h' tk eb => ⟨rfl, I.turned (fun b o hb e => eb b o hb e) f0 f1 f3 f4 f5⟩
  self := fun A i s Q E st h => hs A i s Q E st h
def iStr (te : TE) : TI := fun σ H R => te σ H fun v H1 => ∃ x, v = .str x ∧ R (Its x) H1
section
variable {X : Cx} {tg l : Expr} {tl : TE}
theorem pi_str (hl : PE X l tl) : PI X tg l (iStr tl) := by
  intro pins s σ H R I h
  refine thn (hl pins s σ H _ I h) fun v s1 ⟨v', H1, I1, r1, q1⟩ => ?_
  obtain ⟨x, rfl, q⟩ := q1
  obtain ⟨t, rfl⟩ := r1
  have fin : ∀ b ∈ [s1.heap.objs.size], FpOk X pins H1 b := fun b hb => by
    have e : b = s1.heap.objs.size := by simpa using hb
    subst e
    exact I1.fpOk (Nat.le_refl _) (I1.hok.fresh (Nat.le_refl _))
  cases ha : x.cps.all (· < 128)
  · refine wpAny_pyIter_wide ha ?_
    exact ⟨s1.heap.objs.size, [s1.heap.objs.size], _, _, H1, rfl, I1.kept (t' := s1.toks) fun b o e => Heap.get?_push_of_some _ e, turn_str x _ "str_iterator" t (by decide) (fun A hA => Walks.strWide hA _ x t) (fun A i s Q E st h => wpAny_pyIter_striter_wide st h)
      (fun A i s Q E hA hi st h => wpAny_pyNext_wide_end hA st (by simp [hi]) fun h' he => h h' s.toks fun b o hb e => he b o hb e), ⟨_, Heap.get?_push_size _ rfl, rfl, rfl⟩, fin, q⟩
  · refine wpAny_pyIter_ascii ha ?_
    exact ⟨s1.heap.objs.size, [s1.heap.objs.size], _, _, H1, rfl, I1.kept (t' := s1.toks) fun b o e => Heap.get?_push_of_some _ e, turn_str x _ "str_ascii_iterator" t (by decide) (fun A hA => Walks.strAscii hA _ x t) (fun A i s Q E st h => wpAny_pyIter_striter_ascii st h)
      (fun A i s Q E hA hi st h => wpAny_pyNext_ascii_end hA st (by simp [hi]) fun h' he => h h' s.toks fun b o hb e => he b o hb e), ⟨_, Heap.get?_push_size _ rfl, rfl, rfl⟩, fin, q⟩
end
theorem comp_str {x : Str} {D : Addr} {g : TG} {tt : TT} {te : TE} {fin : Hp → Prop} {σ0 : St} {H0 : Hp} (Pv : Nat → List V → St → Hp → Prop) (h0 : Pv 0 [] σ0 H0)
    (hq : ∀ i ys σ H, i ≤ x.cps.size → Pv i ys σ H → H D = some (.lst ys))
    (hs : ∀ i c ys σ H, x.cps[i]? = some c → Pv i ys σ H → g (.str ⟨#[c]⟩) σ H fun σ2 H2 => tt σ2 H2 fun ok H3 => if ok = true then te σ2 H3 fun y H4 => H4 D = some (.lst ys) ∧ ys.length < sizeLine ∧ Pv (i + 1) (ys ++ [y]) σ2 (upd H4 D (.lst (ys ++ [y]))) else Pv (i + 1) ys σ2 H3)
    (hd : ∀ ys σ H, Pv x.cps.size ys σ H → fin H) : ∃ W : Nat → Nat → List V → St → Hp → Prop, (∃ m, W 0 m [] σ0 H0) ∧ CompW (Its x) g tt te D W fin := by
  refine ⟨fun i m ys σ H => m = x.cps.size - i ∧ i ≤ x.cps.size ∧ Pv i ys σ H, ⟨x.cps.size, by simp, Nat.zero_le _, h0⟩, ?_⟩
  rintro i m ys σ H ⟨rfl, hi, p⟩
  refine ⟨hq i ys σ H hi p, ?_⟩
  by_cases hlt : i < x.cps.size
  · refine .inr ⟨hlt, Pv (i + 1), fun ys' σ' H' p' => ⟨x.cps.size - (i + 1), by omega, rfl, hlt, p'⟩, fun v H' y => ?_⟩
    obtain ⟨e, c, y, rfl⟩ := y
    subst e
    exact hs i c ys σ _ y p
  · have e : i = x.cps.size := by omega
    subst e
    exact .inl ⟨Nat.le_refl _, hd ys σ H p⟩
def Itz (K : PySem.W.Frag) (l1 l2 : Addr) : It :=
  ⟨fun i H => ∃ xs ys x y, SqL K H l1 xs ∧ SqL K H l2 ys ∧ xs[i]? = some x ∧ ys[i]? = some y,
   fun i H v H' => ∃ p x y, v = .ref p ∧ H p = none ∧ H' = upd H p (.tup [x, y]) ∧ (∀ xs, SqL K H l1 xs → xs[i]? = some x) ∧ ∀ ys, SqL K H l2 ys → ys[i]? = some y,
   fun i H => ∃ xs ys, SqL K H l1 xs ∧ SqL K H l2 ys ∧ (xs.length ≤ i ∨ ys.length ≤ i)⟩
theorem turn_zip {P : Program} {w : World} {K : PySem.W.Frag} {es : List Expr} {k : Nat} {pos : Pos} (z TI TO i1 i2 l1 l2 : Addr) (D : ZipApart z TI TO i1 i2 l1 l2) :
    Turn P w K (.Tuple es k pos) (Itz K l1 l2) [z, TI, TO, i1, i2] z (fun i h => IsZip h z TI TO .none ∧ IsPair h TI (.ref i1) (.ref i2) ∧ (∃ a b, IsPair h TO a b) ∧ h.IsListIter i1 l1 i ∧ h.IsListIter i2 l2 i) where
  mem := by simp
  obj := fun i h st b hb => by
    obtain ⟨hz, hTI, ⟨a, c, hTO⟩, ⟨o1, e1, _, d1⟩, ⟨o2, e2, _, d2⟩⟩ := st
    simp only [List.mem_cons, List.not_mem_nil, or_false] at hb
    rcases hb with rfl | rfl | rfl | rfl | rfl
    · exact ⟨_, hz, fun v q => nomatch q⟩
    · exact ⟨_, hTI, fun v q => nomatch q⟩
    · exact ⟨_, hTO, fun v q => nomatch q⟩
    · exact ⟨_, e1, fun v q => by rw [d1] at q; cases q⟩
    · exact ⟨_, e2, fun v q => by rw [d2] at q; cases q⟩
  keep := fun i h h' st hk => by
    obtain ⟨hz, hTI, ⟨a, b, hTO⟩, h1, h2⟩ := st
    exact ⟨hk z (by simp) _ hz, hk TI (by simp) _ hTI, ⟨a, b, hk TO (by simp) _ hTO⟩, h1.at fun o e => hk i1 (by simp) o e, h2.at fun o e => hk i2 (by simp) o e⟩
  item := by
    intro X hP hw hK hc i pins s σ H E I hf st hg
    subst hP hw hK
    obtain ⟨xs, ys, x, y, q1, q2, g1, g2⟩ := hg
    obtain ⟨hz, hTI, ⟨a, b, hTO⟩, h1, h2⟩ := st
    obtain ⟨is1, v1, pl1, z1⟩ := I.list q1
    obtain ⟨is2, v2, pl2, z2⟩ := I.list q2
    obtain ⟨u1, e1, r1⟩ := v1.get g1
    obtain ⟨u2, e2, r2⟩ := v2.get g2
    refine wpAny_pyNext_zip_item D hz hTI hTO h1 h2 pl1.isList pl2.isList (x := u1) (y := u2) (by simpa using e1) (by simpa using e2) fun h' a1 a2 a3 a4 a5 a6 hk => ?_
    refine ⟨_, rfl, wpAny_letOwnedTupleGo_zip (s := { s with heap := h' }) a1 fun h'' hz' hs' => ?_⟩
    have lt : ∀ {c o}, s.heap.get? c = some o → s.heap.objs.size ≠ c := fun e => Nat.ne_of_gt (Heap.lt_size e)
    have nz : s.heap.objs.size ≠ z := lt hz
    have kk : ∀ c u, c ∉ [z, TI, TO, i1, i2] → s.heap.get? c = some u → h''.get? c = some u := fun c u m e => by
      simp only [List.mem_cons, List.not_mem_nil, or_false, not_or] at m
      exact hs'.extBut _ _ m.1 (hk c u m.1 m.2.2.1 m.2.2.2.1 m.2.2.2.2 e)
    have fresh := I.hok.fresh (Nat.le_refl s.heap.objs.size)
    have J : Inv X pins σ (upd H s.heap.objs.size (.tup [x, y])) { s with heap := h'', toks := s.toks } := I.turnLay kk hf (Nat.le_refl _) ⟨by show 2 ≤ sizeLine; decide, [u1, u2], .cons r1 (.cons r2 .nil), ⟨_, hs'.extBut _ _ nz a5, rfl, _, rfl⟩⟩
    refine ⟨.ref s.heap.objs.size, _, J, rfl, ⟨_, x, y, rfl, fresh, rfl, fun ws hw => by rw [I.list_inj hw q1]; exact g1, fun ws hw => by rw [I.list_inj hw q2]; exact g2⟩, ⟨hz', hs'.extBut _ _ D.TIz (hk _ _ D.TIz D.TITO D.TIi1 D.TIi2 hTI), ⟨_, _, hs'.extBut _ _ D.TOz a2⟩, a3.extBut hs'.extBut D.i1z, a4.extBut hs'.extBut D.i2z⟩, fun c hc => ?_⟩
    have nc : c ≠ s.heap.objs.size := fun q => by
      subst q
      simp only [List.mem_cons, List.not_mem_nil, or_false] at hc
      rcases hc with q | q | q | q | q
      · exact lt hz q
      · exact lt hTI q
      · exact lt hTO q
      · obtain ⟨_, e, _⟩ := h1; exact lt e q
      · obtain ⟨_, e, _⟩ := h2; exact lt e q
    rw [upd_ne nc]
    exact (hf c hc).1
  done := by
    intro X hP hw hK hc i pins s σ H E I hf st hg
    subst hP hw hK
    obtain ⟨xs, ys, q1, q2, g⟩ := hg
    obtain ⟨hz, hTI, ⟨a, b, hTO⟩, h1, h2⟩ := st
    obtain ⟨is1, v1, pl1, z1⟩ := I.list q1
    obtain ⟨is2, v2, pl2, z2⟩ := I.list q2
    have hl1 := v1.length
    have hl2 := v2.length
    refine wpAny_pyNext_zip_end (I.ok.hd hc) D hz hTI hTO h1 h2 pl1.isList pl2.isList (by rcases g with g | g; exact .inl (by simp; omega); exact .inr (by simp; omega)) fun h' hk => ⟨rfl, I.turnL (t' := s.toks) (fp := [z, TI, TO, i1, i2]) (fun c u m e => ?_) hf⟩
    simp only [List.mem_cons, List.not_mem_nil, or_false, not_or] at m
    exact hk c u m.1 m.2.2.1 m.2.2.2.1 m.2.2.2.2 e
  self := fun A i s Q E st h => wpAny_pyIter_zip st.1 h
def iZip (K : PySem.W.Frag) (t : TA) : TI := fun σ H R => t σ H fun vs H1 => ∃ p q, vs = [.ref p, .ref q] ∧ (∃ xs, SqL K H1 p xs) ∧ (∃ ys, SqL K H1 q ys) ∧ R (Itz K p q) H1
section
variable {X : Cx} {es : List Expr} {k : Nat} {p2 pos pos2 : Pos} {a b : Expr} {t : TA}
theorem pi_zip (hgz : Gl X "zip") (hmz : X.mg "zip" = none) (ha : PA X [a, b] t)
    (he2 : starEach [a, b] X.env = (false, eval a X.env) :: starEach [b] X.env := by rfl) (hpl : (backTo pos2 (starEach [b] X.env)).any (·.1) = false := by rfl) :
    PI X (.Tuple es k pos) (.Call (.Name "zip" p2) [a, b] [] pos2) (iZip X.K t) := by
  intro pins s σ H R I h
  refine wpAny_Call_Name_kw (ld_blt I hgz hmz (by decide +kernel : bootBuiltins "zip" = some (.type "zip")) ?_ (by decide) (by decide))
  refine PyProof.Rows.callWith_type1 (thn (ha pos2 pins s σ H _ I h) fun us s1 ⟨vs, H1, I1, r1, q1⟩ => ?_) he2 hpl
  obtain ⟨l1, l2, rfl, ⟨xs, hx⟩, ⟨ys, hy⟩, q⟩ := q1
  obtain ⟨u1, u2, rfl, e1, e2⟩ := vals2 r1
  cases e1
  cases e2
  obtain ⟨is1, v1, pl1, z1⟩ := I1.list hx
  obtain ⟨is2, v2, pl2, z2⟩ := I1.list hy
  have n1 : l1 < s1.heap.objs.size := by obtain ⟨_, e, _⟩ := pl1.isList; exact Heap.lt_size e
  have n2 : l2 < s1.heap.objs.size := by obtain ⟨_, e, _⟩ := pl2.isList; exact Heap.lt_size e
  refine call_zip_2 pl1.isList pl2.isList fun h2 b1 b2 b3 b4 b5 b6 k2 => ?_
  refine wpAny_pyIter_zip (s := { s1 with heap := h2 }) b1 ?_
  have J : Inv X pins σ H1 { s1 with heap := h2, toks := s1.toks } := I1.kept k2
  refine ⟨_, [s1.heap.objs.size + 4, s1.heap.objs.size + 2, s1.heap.objs.size + 3, s1.heap.objs.size, s1.heap.objs.size + 1], _, _, H1, rfl, J, turn_zip _ _ _ _ _ l1 l2 (zipApart_new n1 n2), ⟨b1, b2, ⟨_, _, b3⟩, b4, b5⟩, fun c hc => ?_, q⟩
  have ge : s1.heap.objs.size ≤ c := by
    simp only [List.mem_cons, List.not_mem_nil, or_false] at hc
    rcases hc with q | q | q | q | q <;> rw [q] <;> first | exact Nat.le_refl _ | exact Nat.le_add_right _ _
  exact I1.fpOk ge (I1.hok.fresh ge)
end
theorem comp_zip {K : PySem.W.Frag} {l1 l2 D : Addr} {xs ys : List V} {g : TG} {tt : TT} {te : TE} {fin : Hp → Prop} {σ0 : St} {H0 : Hp} (Pv : Nat → List V → St → Hp → Prop) (h0 : Pv 0 [] σ0 H0)
    (hq : ∀ i zs σ H, i ≤ min xs.length ys.length → Pv i zs σ H → SqL K H l1 xs ∧ SqL K H l2 ys ∧ H D = some (.lst zs))
    (hs : ∀ i x y p zs σ H, xs[i]? = some x → ys[i]? = some y → Pv i zs σ H → H p = none → g (.ref p) σ (upd H p (.tup [x, y])) fun σ2 H2 => tt σ2 H2 fun ok H3 => if ok = true then te σ2 H3 fun y H4 => H4 D = some (.lst zs) ∧ zs.length < sizeLine ∧ Pv (i + 1) (zs ++ [y]) σ2 (upd H4 D (.lst (zs ++ [y]))) else Pv (i + 1) zs σ2 H3)
    (hd : ∀ zs σ H, Pv (min xs.length ys.length) zs σ H → fin H) : ∃ W : Nat → Nat → List V → St → Hp → Prop, (∃ m, W 0 m [] σ0 H0) ∧ CompW (Itz K l1 l2) g tt te D W fin := by
  refine ⟨fun i m zs σ H => m = min xs.length ys.length - i ∧ i ≤ min xs.length ys.length ∧ Pv i zs σ H, ⟨min xs.length ys.length, by simp, Nat.zero_le _, h0⟩, ?_⟩
  rintro i m zs σ H ⟨rfl, hi, p⟩
  obtain ⟨q1, q2, hD⟩ := hq i zs σ H hi p
  refine ⟨hD, ?_⟩
  by_cases hlt : i < min xs.length ys.length
  · have c1 : i < xs.length := by omega
    have c2 : i < ys.length := by omega
    refine .inr ⟨⟨xs, ys, xs[i], ys[i], q1, q2, by simp [c1], by simp [c2]⟩, Pv (i + 1), fun ys' σ' H' p' => ⟨min xs.length ys.length - (i + 1), by omega, rfl, hlt, p'⟩, fun v H' y => ?_⟩
    obtain ⟨a, x, y', rfl, hn, rfl, y1, y2⟩ := y
    exact hs i x y' a zs σ H (y1 xs q1) (y2 ys q2) p hn
  · have e : i = min xs.length ys.length := by omega
    subst e
    exact .inl ⟨⟨xs, ys, q1, q2, by omega⟩, hd zs σ H p⟩
end L2
namespace L2
open PySem PySem.Spec PyProof.Rows
section
variable {X : Cx}
theorem op_catT0 : OpR X (binaryOp .Add) (fun x y H Q => ∃ l b zs, x = .ref l ∧ y = .ref b ∧ SqT X.K H l [] ∧ SqT X.K H b zs ∧ Q (.ref b) H) := by
  intro pins s σ H x y v u Q I rx ry h
  obtain ⟨l, b, zs, rfl, rfl, hl, hb, q⟩ := h
  cases rx
  cases ry
  obtain ⟨i1, r1, p1, z1⟩ := I.tuple hl
  obtain ⟨i2, r2, p2, z2⟩ := I.tuple hb
  have e1 : i1 = [] := by cases r1; rfl
  subst e1
  obtain ⟨⟨c1, d1, t1, s1⟩, o1, k1, n1, m1⟩ := id p1
  obtain ⟨⟨c2, d2, t2, s2⟩, o2, k2, n2, m2⟩ := id p2
  simp only at k1 m1 k2 m2
  subst k1 m1 k2 m2
  exact concat_meets ⟨_, o1, rfl⟩ ⟨_, o2, rfl⟩ noFill_tuple_add seq_tuple_add PySem.F.slot_tuple_add PySem.F.entry_tuple_add (PySem.F.args_tuple_add_2 _ _) (tuple_addW0 l b _ _ n1 n2 d1 d2 s1 s2 rfl) ⟨o1, o2, ⟨.ref b, H, I, rfl, q⟩⟩
end
end L2
set_option Elab.async false
set_option linter.all false
set_option maxRecDepth 100000
namespace HT
open PySem PySem.Spec PyProof.Rows
section
variable {prog : Program} {w : World} {A : Around} {E : Value → Shared → Prop} {s : Shared}
theorem getItem_tuple_whole {t sl : Addr} {items : Array Value} {vl vu : Value} {lo hi : Option Int} {Q : Value → Shared → Prop} (ht : IsTup s.heap t items) (hs : s.heap.IsSliceOf sl vl vu .none) (pl : IsPart vl lo) (pu : IsPart vu hi)
    (hw : sIx items.size 0 lo = 0 ∧ sIx items.size items.size hi = items.size) (h : Q (.ref t) s) : wpAny (model prog w) A (getItem (.ref t) (.ref sl)) Q E s := by
  obtain ⟨os, hos, hcs, hds⟩ := id hs
  have hTs : s.TypeIs (.ref sl) "slice" := ⟨os, hos, hcs⟩
  unfold getItem
  try with_reducible refine wpAny_holding ?_
  first | refine wpAny_bind (wpAny_pure ?_) | skip
  refine wpAny_bind (wpAny_sequenceKey ht.typeIs (by decide) ?_)
  refine wpAny_bind (wpAny_callSpecial?_slot (name := Str.ofString "__getitem__") ht.typeIs PyProof.Rows.slot_tuple_getitem
    (wpAny_call_entry PyProof.Rows.slot_tuple_getitem ht.typeIs entry_tuple_getitem ?_ (args_tuple_getitem _ _)))
  show wpAny _ _ (Builtin.Tuple.tupleItemsOf (.ref t) >>= _) _ _ s
  refine wpAny_bind (tupleItemsOf_ ht ?_)
  refine wpAny_bind (wpAny_typeOf hTs ?_)
  rw [if_pos (by decide)]
  refine wpAny_bind (sliceApplied_gen hs pl pu ?_)
  have hyes : (((sIx items.size 0 lo : Nat) : Int) == 0 && (1 : Int) == 1 && (sIx items.size items.size hi - sIx items.size 0 lo) == items.size) = true := by
    rw [hw.1, hw.2]
    simp
  show wpAny _ _ (if (((sIx items.size 0 lo : Nat) : Int) == 0 && (1 : Int) == 1 && (sIx items.size items.size hi - sIx items.size 0 lo) == items.size) = true then _ else _) _ _ s
  rw [if_pos hyes]
  refine wpAny_bind (m := Builtin.Tuple.tupleIsExact (.ref t)) (wpAny_bind (wpAny_typeOf ht.typeIs (wpAny_pure ?_)))
  rw [if_pos (by decide)]
  exact wpAny_bind (wpAny_rule (wpAny_pure ⟨_, rfl, wpAny_pure h⟩))
theorem sliceApplied_rev {sl : Addr} {n : Nat} {u : Tok} {Q : Int × Int × Nat → Shared → Prop} (hs : s.heap.IsSliceOf sl .none .none (.int (-1) u))
    (h : Q ((n : Int) - 1, -1, n) s) : wpAny (model prog w) A (Builtin.Slice.sliceApplied (.ref sl) (pure (n : Int))) Q E s := by
  obtain ⟨os, hos, hcs, hds⟩ := id hs
  unfold Builtin.Slice.sliceApplied Builtin.Slice.sliceFields
  refine wpAny_bind (wpAny_bind (wpAny_field hos hds (x := .none) rfl (wpAny_bind (wpAny_field hos hds (x := .none) rfl (wpAny_bind (wpAny_field hos hds (x := .int (-1) u) rfl (wpAny_pure ?_)))))))
  refine wpAny_bind (slicePart_int ?_)
  show wpAny _ _ (if ((-1 : Int) == 0) = true then _ else _) _ _ s
  rw [if_neg (by decide)]
  refine wpAny_bind (slicePart_none (wpAny_bind (slicePart_none (wpAny_bind (wpAny_pure ?_)))))
  have e : Builtin.Slice.slicePlaces ((n : Int) - 1) (-1) (-1) = n := by
    unfold Builtin.Slice.slicePlaces
    rw [if_neg (by decide)]
    by_cases hn : n = 0
    · subst hn; decide
    · rw [if_pos (by omega)]
      have q : ((n : Int) - 1 - -1 - 1) / - -1 = (n : Int) - 1 := by rw [show (- -1 : Int) = 1 from rfl, Int.ediv_one]; omega
      rw [q]; omega
  show wpAny _ _ (pure ((n : Int) - 1, (-1 : Int), Builtin.Slice.slicePlaces ((n : Int) - 1) (-1) (-1))) _ _ s
  rw [e]
  exact wpAny_pure h
theorem pick_rev (xs : Array Value) : ((List.range xs.size).filterMap fun (m : Nat) => xs[(((xs.size : Int) - 1) + (m : Int) * (-1)).toNat]?) = xs.toList.reverse := by
  apply List.ext_getElem?
  intro i
  have e : (List.range xs.size).filterMap (fun (m : Nat) => xs[(((xs.size : Int) - 1) + (m : Int) * (-1)).toNat]?) = (List.range xs.size).map (fun m => xs.toList.getD (xs.size - 1 - m) .none) := by
    have go : ∀ l : List Nat, (∀ m ∈ l, m < xs.size) → l.filterMap (fun (m : Nat) => xs[(((xs.size : Int) - 1) + (m : Int) * (-1)).toNat]?) = l.map (fun m => xs.toList.getD (xs.size - 1 - m) .none) := by
      intro l
      induction l with
      | nil => intro _; rfl
      | cons m l ih =>
        intro h
        have hm' := h m List.mem_cons_self
        have q : (((xs.size : Int) - 1) + (m : Int) * (-1)).toNat = xs.size - 1 - m := by omega
        have hl : xs.size - 1 - m < xs.size := by omega
        have q2 : xs[(((xs.size : Int) - 1) + (m : Int) * (-1)).toNat]? = some (xs.toList.getD (xs.size - 1 - m) .none) := by rw [q]; simp [hl]
        rw [List.filterMap_cons, q2, List.map_cons, ih fun k hk => h k (List.mem_cons_of_mem _ hk)]
    exact go _ fun m hm => List.mem_range.mp hm
  rw [e]
  by_cases hi : i < xs.size
  · rw [List.getElem?_map, List.getElem?_range hi, List.getElem?_reverse (by simpa using hi)]
    have hl : xs.size - 1 - i < xs.size := by omega
    simp [hl]
  · rw [List.getElem?_eq_none (by simp; omega), List.getElem?_eq_none (by simp; omega)]
theorem getItem_tuple_rev {t sl : Addr} {items : Array Value} {u : Tok} {Q : Value → Shared → Prop} (ht : IsTup s.heap t items) (hs : s.heap.IsSliceOf sl .none .none (.int (-1) u)) (hsz : items.size ≤ sizeLine)
    (h : Q (.ref s.heap.objs.size) { s with heap := s.heap.push { cls := .type "tuple", data := .seq items.toList.reverse.toArray } }) : wpAny (model prog w) A (getItem (.ref t) (.ref sl)) Q E s := by
  obtain ⟨os, hos, hcs, hds⟩ := id hs
  have hTs : s.TypeIs (.ref sl) "slice" := ⟨os, hos, hcs⟩
  have htake : sizeOk (.seq items.toList.reverse.toArray) := by
    show items.toList.reverse.toArray.size ≤ sizeLine
    rw [List.size_toArray, List.length_reverse, Array.length_toList]
    exact hsz
  unfold getItem
  try with_reducible refine wpAny_holding ?_
  first | refine wpAny_bind (wpAny_pure ?_) | skip
  refine wpAny_bind (wpAny_sequenceKey ht.typeIs (by decide) ?_)
  refine wpAny_bind (wpAny_callSpecial?_slot (name := Str.ofString "__getitem__") ht.typeIs PyProof.Rows.slot_tuple_getitem
    (wpAny_call_entry PyProof.Rows.slot_tuple_getitem ht.typeIs entry_tuple_getitem ?_ (args_tuple_getitem _ _)))
  show wpAny _ _ (Builtin.Tuple.tupleItemsOf (.ref t) >>= _) _ _ s
  refine wpAny_bind (tupleItemsOf_ ht ?_)
  refine wpAny_bind (wpAny_typeOf hTs ?_)
  rw [if_pos (by decide)]
  refine wpAny_bind (sliceApplied_rev hs ?_)
  have hno : ¬ ((((items.size : Int) - 1) == 0 && (-1 : Int) == 1 && items.size == items.size) = true) := by simp
  show wpAny _ _ (if (((items.size : Int) - 1) == 0 && (-1 : Int) == 1 && items.size == items.size) = true then _ else _) _ _ s
  rw [if_neg hno, pick_rev]
  first
    | exact wpAny_bind (m := Builtin.Tuple.tupleExact _) (wpAny_newObj_type (wpAny_pure ⟨_, rfl, wpAny_pure h⟩) htake)
    | exact wpAny_bind (m := Builtin.Tuple.tupleExact _) (wpAny_newObj_type (wpAny_bind (wpAny_pure (wpAny_pure ⟨_, rfl, wpAny_pure h⟩))) htake)
    | exact wpAny_bind (wpAny_bind (m := Builtin.Tuple.tupleExact _) (wpAny_newObj_type (wpAny_pure (wpAny_pure ⟨_, rfl, wpAny_pure h⟩)) htake))
    | exact wpAny_bind (wpAny_bind (m := Builtin.Tuple.tupleExact _) (wpAny_newObj_type (wpAny_pure ⟨_, rfl, wpAny_pure h⟩) htake))
end
end HT
namespace L2
open PySem PySem.Spec PyProof.Rows
section
variable {X : Cx} {e : Expr} {te : TE} {lo hi : Option Expr} {tl th : TO} {pos p2 p3 p4 : Pos} {j1 : Nat}
theorem Same.lay {H : Hp} {p : Addr} {o : HO} (h : H p = none) : Same H (upd H p o) := fun b u q => by rw [upd_ne (ne_of_none q h)]; exact q
def rSlG (K : PySem.W.Frag) : V → Option Int → Option Int → Hp → VK → Prop := fun x lo hi H Q => ∃ a xs, x = .ref a ∧ SqT K H a xs ∧ ∀ p H', Same H H' → SqT K H' p (cutV xs lo hi) → Q (.ref p) H'
theorem sl_tupG : SlR X (rSlG X.K) := by
  intro pins s σ H x v vl vu lo hi sl Q I rx hs pl pu h
  obtain ⟨a, xs, rfl, hx, q⟩ := h
  by_cases hw : HT.sIx xs.length 0 lo = 0 ∧ HT.sIx xs.length xs.length hi = xs.length
  · cases rx
    obtain ⟨its, r, ht, hz⟩ := I.tuple hx
    have hlen : its.toArray.size = xs.length := by rw [List.size_toArray]; exact r.length.symm
    refine ⟨"tuple", _, PyProof.Rows.slot_tuple_getitem.lookup, ht.typeIs, ?_⟩
    refine HT.getItem_tuple_whole ht hs pl pu (by rw [hlen]; exact hw) ⟨.ref a, H, I, rfl, q a H (Same.refl H) ?_⟩
    have e : cutV xs lo hi = xs := by
      unfold cutV
      rw [hw.1, hw.2, List.drop_zero, Nat.sub_zero, List.take_length]
    rw [e]
    exact hx
  · exact sl_tup pins s σ H _ v vl vu lo hi sl Q I rx hs pl pu ⟨a, xs, rfl, hx, hw, fun p hp => q p _ (Same.lay hp) (SqT.of upd_same)⟩
def tRev (K : PySem.W.Frag) (te : TE) : TE := fun σ H Q => te σ H fun x H1 => ∃ a xs, x = .ref a ∧ SqT K H1 a xs ∧ ∀ p, H1 p = none → Q (.ref p) (upd H1 p (.tup xs.reverse))
theorem Vals.rev {xs : List V} {us : List Value} (r : Vals xs us) : Vals xs.reverse us.reverse := by
  induction r with
  | nil => exact .nil
  | cons h t ih =>
    rw [List.reverse_cons, List.reverse_cons]
    exact Vals.append ih (.cons h .nil)
theorem pe_revT (he : PE X e te) (hst : PE X (.UnaryOp .USub (.Constant (.int 1) j1 p3) p4) (tUn (rU fun i => .int (-i)) (tC (.int 1)))) : PE X (.Subscript e (.Slice none none (some (.UnaryOp .USub (.Constant (.int 1) j1 p3) p4)) p2) pos) (tRev X.K te) := by
  intro pins s σ H Q I h
  refine Subscript_ (thn (he pins s σ H _ I h) fun v s1 ⟨x, H1, I1, r1, q1⟩ => ?_)
  rw [show (Expr.Slice none none (some (.UnaryOp .USub (.Constant (.int 1) j1 p3) p4)) p2) = (Expr.Slice none none (some (.UnaryOp .USub (.Constant (.int 1) j1 p3) p4)) p2) from rfl]
  refine wpAny_Slice ?_
  rw [evalPart_none]
  refine wpAny_pure (wpAny_pure ?_)
  rw [evalPart_some]
  refine thn (hst pins s1 σ H1 (fun v H2 => v = .int (-1) ∧ H2 = H1) I1 ⟨1, rfl, rfl, rfl⟩) fun u s3 ⟨y, H3, I3, r3, e3, e4⟩ => ?_
  subst e3 e4
  obtain ⟨t, rfl⟩ := r3
  obtain ⟨a, xs, rfl, hx, q⟩ := q1
  cases r1
  have I4 : Inv X pins σ H3 { s3 with heap := s3.heap.push { cls := .type "slice", data := .fields #[.none, .none, .int (-1) t] } } := I3.kept (t' := s3.toks) fun b ob q => Heap.get?_push_of_some _ q
  obtain ⟨its, r, ht, hz⟩ := I4.tuple hx
  have hlen : its.toArray.size = xs.length := by rw [List.size_toArray]; exact r.length.symm
  show wpAny (model X.prog X.w) X.A (subscriptTail e (.Slice none none (some (.UnaryOp .USub (.Constant (.int 1) j1 p3) p4)) p2) (.ref a) (.ref s3.heap.objs.size)) (EP X pins σ Q) X.xe { s3 with heap := s3.heap.push { cls := .type "slice", data := .fields #[.none, .none, .int (-1) t] } }
  refine tail_any (ops := [.ref a, .ref s3.heap.objs.size]) ht.typeIs PyProof.Rows.slot_tuple_getitem.lookup (HT.getItem_tuple_rev ht (Heap.IsSliceOf.new ..) (by rw [hlen]; exact hz) ?_) (by with_unfolding_all rfl)
  refine ⟨.ref _, _, I4.laid (t' := s3.toks) (o := .tup xs.reverse) (fun b ob q => Heap.get?_push_of_some _ q) (Nat.le_refl _) ?_, rfl, q _ (I4.hok.fresh (Nat.le_refl _))⟩
  exact ⟨by rw [List.length_reverse]; exact hz, _, r.rev, IsTup.new _ _⟩
def rCatG (K : PySem.W.Frag) : R2 := fun x y H Q => ∃ a b xs ys, x = .ref a ∧ y = .ref b ∧ SqT K H a xs ∧ SqT K H b ys ∧ xs.length + ys.length ≤ sizeLine ∧ ∀ p H', Same H H' → SqT K H' p (xs ++ ys) → Q (.ref p) H'
theorem op_catG : OpR X (binaryOp .Add) (rCatG X.K) := by
  intro pins s σ H x y v u Q I rx ry h
  obtain ⟨a, b, xs, ys, rfl, rfl, ha, hb, hz, q⟩ := h
  cases xs with
  | nil => exact op_catT0 pins s σ H _ _ v u Q I rx ry ⟨a, b, ys, rfl, rfl, ha, hb, q b H (Same.refl H) hb⟩
  | cons x xs =>
    refine op_catT pins s σ H _ _ v u Q I rx ry ⟨a, b, x :: xs, ys, rfl, rfl, ha, hb, (fun z => nomatch z), hz, fun e => ?_, fun _ p hp => q p _ (Same.lay hp) (SqT.of upd_same)⟩
    subst e
    exact q a H (Same.refl H) (by rw [List.append_nil]; exact ha)
end
structure FnV (X : Cx) (f : Addr) (ps : List Str) (sp : Sp) : Prop where
  ok : ∃ k fd, FnOk X.prog X.w X.K X.mg X.base CX0 k f fd ps sp ∧ Binds X.K fd ps [] ∧ Room k X.A
  kp : PySem.W.keepIn X.K (.ref f) = true
section
variable {X : Cx} {x : Str} {p pos : Pos} {e : Expr} {es : List Expr} {tn : TE} {t : TA} {Y : Cx → Addr → List Str → Sp → Prop}
def tCallV (X : Cx) (tn : TE) (t : TA) : TE := fun σ H Q => tn σ H fun v H1 => ∃ f ps sp, v = .ref f ∧ FnV X f ps sp ∧ t σ H1 fun vs H2 => sp vs H2 Q E0
theorem pe_callV (hn : PE X (.Name x p) tn) (ha : PA X (e :: es) t)
    (he : starEach (e :: es) X.env = (false, eval e X.env) :: starEach es X.env := by rfl) (hpl : (backTo pos (starEach es X.env)).any (·.1) = false := by rfl) :
    PE X (.Call (.Name x p) (e :: es) [] pos) (tCallV X tn t) := by
  intro pins s σ H Q I h
  refine wpAny_Call_Name_kw (thn (hn pins s σ H _ I h) fun v s1 ⟨v', H1, I1, r1, f, ps, sp, e1, ⟨⟨k, fd, F, b, hr⟩, kp⟩, q1⟩ => ?_)
  subst e1
  cases r1
  refine PySem.W.callWith_K (h₀ := X.base) I1.ok.mod.kin kp (thn (ha pos pins s1 σ H1 _ I1 q1) fun us s2 ⟨vs, H2, I2, r2, q2⟩ => ⟨I2.kIn, ?_⟩) he hpl
  exact run_fn (sp := sp) (E := E0) F hr b .nil pass0 I2 r2 (by rw [List.append_nil]; exact q2)
end
end L2
set_option Elab.async false
set_option linter.all false
set_option maxRecDepth 100000
namespace L2
open PySem PySem.Spec PyProof.Rows
inductive Th where
  | non | bl (b : Bool) | int (i : Int) | str (x : Str) | tup (ts : List Th) | opq
mutual
def IsTh (K : PySem.W.Frag) (H : Hp) : Th → V → Prop
  | .non, v => v = .non
  | .bl b, v => v = .bl b
  | .int i, v => v = .int i
  | .str x, v => v = .str x
  | .tup ts, v => ∃ a vs, v = .ref a ∧ SqT K H a vs ∧ AreTh K H ts vs
  | .opq, v => ∃ a, v = .ref a ∧ ((∃ xs, H a = some (.lst xs)) ∨ ∃ kvs, H a = some (.dK kvs))
def AreTh (K : PySem.W.Frag) (H : Hp) : List Th → List V → Prop
  | [], vs => vs = []
  | t :: ts, vs => ∃ v r, vs = v :: r ∧ IsTh K H t v ∧ AreTh K H ts r
end
structure UpT (K : PySem.W.Frag) (H H' : Hp) : Prop where
  tup : Up K H H'
  lst : ∀ a xs, H a = some (.lst xs) → ∃ ys, H' a = some (.lst ys)
  dct : ∀ a kvs, H a = some (.dK kvs) → H' a = some (.dK kvs)
section
variable {K : PySem.W.Frag} {H H1 H' : Hp}
theorem UpT.refl (H : Hp) : UpT K H H := ⟨Up.refl H, fun _ xs h => ⟨xs, h⟩, fun _ _ h => h⟩
theorem UpT.trans {H2 : Hp} (a : UpT K H H1) (b : UpT K H1 H2) : UpT K H H2 := ⟨a.tup.trans b.tup, fun p xs h => let ⟨_, e⟩ := a.lst p xs h; b.lst p _ e, fun p k h => b.dct p k (a.dct p k h)⟩
theorem Same.upT (e : Same H H') : UpT K H H' := ⟨e.up, fun a xs h => ⟨xs, e _ _ h⟩, fun a k h => e _ _ h⟩
theorem Step.upT {l : Addr} (a : Step l H H') (f : Feed H l) : UpT K H H' := by
  obtain ⟨x, y, z, w, e⟩ := id f
  refine ⟨a.up f, fun p xs h => ?_, fun p k h => ?_⟩
  · by_cases q : p = l
    · obtain ⟨_, _, _, _, e'⟩ := a.feed
      exact ⟨_, by rw [q]; exact e'⟩
    · exact ⟨xs, a.keep p _ q h⟩
  · refine a.keep p _ (fun q => ?_) h
    rw [q, e] at h
    cases h
theorem upT_set {p : Addr} {ys zs : List V} (h : H p = some (.lst ys)) : UpT K H (upd H p (.lst zs)) := by
  refine ⟨up_set h, fun q xs e => ?_, fun q k e => ?_⟩
  · by_cases z : q = p
    · exact ⟨zs, by rw [z, upd_same]⟩
    · exact ⟨xs, by rw [upd_ne z]; exact e⟩
  · rw [upd_ne (fun z => by rw [z, h] at e; cases e)]
    exact e
mutual
theorem IsTh.up (u : UpT K H H') : ∀ (t : Th) (v : V), IsTh K H t v → IsTh K H' t v
  | .non, _, h => h
  | .bl _, _, h => h
  | .int _, _, h => h
  | .str _, _, h => h
  | .tup ts, v, h => by
    obtain ⟨a, vs, e, q, r⟩ := h
    exact ⟨a, vs, e, u.tup a vs q, AreTh.up u ts vs r⟩
  | .opq, v, h => by
    obtain ⟨a, e, q⟩ := h
    refine ⟨a, e, ?_⟩
    rcases q with ⟨xs, q⟩ | ⟨k, q⟩
    · exact .inl (u.lst a xs q)
    · exact .inr ⟨k, u.dct a k q⟩
theorem AreTh.up (u : UpT K H H') : ∀ (ts : List Th) (vs : List V), AreTh K H ts vs → AreTh K H' ts vs
  | [], _, h => h
  | t :: ts, vs, h => by
    obtain ⟨v, r, e, q, w⟩ := h
    exact ⟨v, r, e, IsTh.up u t v q, AreTh.up u ts r w⟩
end
theorem AreTh.length : ∀ {ts : List Th} {vs : List V}, AreTh K H ts vs → ts.length = vs.length
  | [], vs, h => by
    have e : vs = [] := h
    subst e; rfl
  | t :: ts, vs, h => by
    obtain ⟨v, r, rfl, _, w⟩ := h
    simp only [List.length_cons, AreTh.length w]
theorem AreTh.get : ∀ {ts : List Th} {vs : List V} {i : Nat} {t : Th}, AreTh K H ts vs → ts[i]? = some t → ∃ v, vs[i]? = some v ∧ IsTh K H t v
  | [], vs, i, t, _, e => by simp at e
  | t :: ts, vs, 0, t', h, e => by
    obtain ⟨v, r, rfl, q, _⟩ := h
    simp at e; subst e
    exact ⟨v, rfl, q⟩
  | t :: ts, vs, i + 1, t', h, e => by
    obtain ⟨v, r, rfl, _, w⟩ := h
    obtain ⟨v', e1, q⟩ := AreTh.get (i := i) w (by simpa using e)
    exact ⟨v', by simpa using e1, q⟩
theorem AreTh.got : ∀ {ts : List Th} {vs : List V} {i : Nat} {v : V}, AreTh K H ts vs → vs[i]? = some v → ∃ t, ts[i]? = some t ∧ IsTh K H t v := fun {ts vs i v} h e => by
  have hi := (List.getElem?_eq_some_iff.mp e).1
  have hi' : i < ts.length := by rw [h.length]; exact hi
  obtain ⟨v', e1, q⟩ := h.get (List.getElem?_eq_getElem hi')
  rw [e] at e1; cases e1
  exact ⟨_, List.getElem?_eq_getElem hi', q⟩
theorem AreTh.append : ∀ {ts us : List Th} {vs ws : List V}, AreTh K H ts vs → AreTh K H us ws → AreTh K H (ts ++ us) (vs ++ ws)
  | [], us, vs, ws, h, h' => by
    have e : vs = [] := h
    subst e; exact h'
  | t :: ts, us, vs, ws, h, h' => by
    obtain ⟨v, r, rfl, q, w⟩ := h
    exact ⟨v, r ++ ws, rfl, q, AreTh.append w h'⟩
theorem AreTh.one {t : Th} {v : V} (h : IsTh K H t v) : AreTh K H [t] [v] := ⟨v, [], rfl, h, rfl⟩
theorem AreTh.drop : ∀ {ts : List Th} {vs : List V} (n : Nat), AreTh K H ts vs → AreTh K H (ts.drop n) (vs.drop n)
  | ts, vs, 0, h => h
  | [], vs, n + 1, h => by
    have e : vs = [] := h
    subst e; rfl
  | t :: ts, vs, n + 1, h => by
    obtain ⟨v, r, rfl, _, w⟩ := h
    exact AreTh.drop n w
theorem AreTh.take : ∀ {ts : List Th} {vs : List V} (n : Nat), AreTh K H ts vs → AreTh K H (ts.take n) (vs.take n)
  | ts, vs, 0, _ => rfl
  | [], vs, n + 1, h => by
    have e : vs = [] := h
    subst e; rfl
  | t :: ts, vs, n + 1, h => by
    obtain ⟨v, r, rfl, q, w⟩ := h
    exact ⟨v, r.take n, rfl, q, AreTh.take n w⟩
theorem AreTh.reverse : ∀ {ts : List Th} {vs : List V}, AreTh K H ts vs → AreTh K H ts.reverse vs.reverse
  | [], vs, h => by
    have e : vs = [] := h
    subst e; rfl
  | t :: ts, vs, h => by
    obtain ⟨v, r, rfl, q, w⟩ := h
    rw [List.reverse_cons, List.reverse_cons]
    exact AreTh.append (AreTh.reverse w) (AreTh.one q)
end
def isiT (T : String) : Th → Bool
  | .non => false
  | .bl _ => T == "int" || T == "bool"
  | .int _ => T == "int"
  | .str _ => T == "str"
  | .tup _ => T == "tuple"
  | .opq => false
def eqT (t : Th) (z : Str) : Bool := match t with
  | .str x => x == z
  | _ => false
section
variable {X : Cx}
theorem isi_tup {pins : List (Addr × Obj)} {σ : St} {H : Hp} {s : Shared} {a : Addr} {xs : List V} {c : Value} {b : Bool} {Q : Value → Shared → Prop} {E : Value → Shared → Prop} (I : Inv X pins σ H s) (q : SqT X.K H a xs) (e : PySem.W.kitOne X.K (.type "tuple") c = some b) (h : ∀ tk, Q (.bool b) { s with toks := tk }) :
    wpAny (model X.prog X.w) X.A (call (.builtin "isinstance") [.ref a, c]) Q E s := by
  obtain ⟨its, _, ⟨o, h1, h2, _⟩, _⟩ := I.tuple q
  exact PySem.W.kia_one PySem.W.kitx_tuple I.kIn ⟨o, h1, h2⟩ e (fun z => nomatch z) h
theorem call_isiTh : CallR X (.builtin "isinstance") (fun xs H Q => ∃ x T t, xs = [x, .ty T] ∧ IsTh X.K H t x ∧ T ∈ ["tuple", "str", "int", "bool"] ∧ Q (.bl (isiT T t)) H) := by
  intro pins s σ H xs us Q I r h
  obtain ⟨x, T, t, rfl, ht, hT, q⟩ := h
  obtain ⟨u, w', rfl, rx, ry⟩ := vals2 r
  cases ry
  have fin : ∀ tk, EP X pins σ Q (.bool (isiT T t)) { s with toks := tk } := fun tk => ⟨.bl _, H, I.tok _, rfl, q⟩
  have four : ∀ P : String → Prop, P "tuple" → P "str" → P "int" → P "bool" → P T := fun P a b c d => by
    simp only [List.mem_cons, List.not_mem_nil, or_false] at hT
    rcases hT with rfl | rfl | rfl | rfl
    · exact a
    · exact b
    · exact c
    · exact d
  cases t with
  | non =>
    cases (show x = .non from ht)
    exact isinst_ok I rx .non (by revert fin; exact four (fun T => _ → PySem.W.kitOne X.K (.type "NoneType") (.type T) = some (isiT T .non)) (fun _ => rfl) (fun _ => rfl) (fun _ => rfl) (fun _ => rfl)) fin
  | bl b =>
    cases (show x = .bl b from ht)
    exact isinst_ok I rx (.bl b) (by revert fin; exact four (fun T => _ → PySem.W.kitOne X.K (.type "bool") (.type T) = some (isiT T (.bl b))) (fun _ => rfl) (fun _ => rfl) (fun _ => rfl) (fun _ => rfl)) fin
  | int i =>
    cases (show x = .int i from ht)
    exact isinst_ok I rx (.int i) (by revert fin; exact four (fun T => _ → PySem.W.kitOne X.K (.type "int") (.type T) = some (isiT T (.int i))) (fun _ => rfl) (fun _ => rfl) (fun _ => rfl) (fun _ => rfl)) fin
  | str i =>
    cases (show x = .str i from ht)
    exact isinst_ok I rx (.str i) (by revert fin; exact four (fun T => _ → PySem.W.kitOne X.K (.type "str") (.type T) = some (isiT T (.str i))) (fun _ => rfl) (fun _ => rfl) (fun _ => rfl) (fun _ => rfl)) fin
  | tup ts =>
    obtain ⟨a, vs, rfl, hq, _⟩ := ht
    cases rx
    exact isi_tup I hq (by revert fin; exact four (fun T => _ → PySem.W.kitOne X.K (.type "tuple") (.type T) = some (isiT T (.tup ts))) (fun _ => rfl) (fun _ => rfl) (fun _ => rfl) (fun _ => rfl)) fin
  | opq =>
    obtain ⟨a, rfl, ⟨xs, hq⟩ | ⟨k, hq⟩⟩ := ht
    · exact isinst_ok I rx (.lst hq) (by revert fin; exact four (fun T => _ → PySem.W.kitOne X.K (.type "list") (.type T) = some (isiT T .opq)) (fun _ => rfl) (fun _ => rfl) (fun _ => rfl) (fun _ => rfl)) fin
    · exact isinst_ok I rx (.dK hq) (by revert fin; exact four (fun T => _ → PySem.W.kitOne X.K (.type "dict") (.type T) = some (isiT T .opq)) (fun _ => rfl) (fun _ => rfl) (fun _ => rfl) (fun _ => rfl)) fin
def rEqTh (K : PySem.W.Frag) (A : Around) : R2 := fun x y H Q => ∃ t z, IsTh K H t x ∧ y = .str z ∧ A.units < cLine ∧ Q (.bl (eqT t z)) H
theorem op_eqTh : OpR X (compareOp .Eq) (rEqTh X.K X.A) := by
  intro pins s σ H x y v u Q I rx ry h
  obtain ⟨t, z, ht, rfl, hu, q⟩ := h
  have fin : EP X pins σ Q (.bool (eqT t z)) s := ⟨.bl _, H, I, rfl, q⟩
  have flat : ∀ (hf : flatV x = true), eqV x (.str z) = eqT t z → wpAny (model X.prog X.w) X.A (compareOp .Eq v u) (EP X pins σ Q) X.xe s := fun hf e => by
    have := rcEq_V (A := X.A) (s := s) rx ry hf rfl
    rw [e] at this
    exact this X.prog X.w X.xe _ fin
  cases t with
  | non => cases (show x = .non from ht); exact flat rfl rfl
  | bl b => cases (show x = .bl b from ht); exact flat rfl rfl
  | int i => cases (show x = .int i from ht); exact flat rfl rfl
  | str i => cases (show x = .str i from ht); exact flat rfl rfl
  | tup ts =>
    obtain ⟨a, vs, rfl, hq, _⟩ := ht
    cases rx
    obtain ⟨tk, rfl⟩ := ry
    obtain ⟨its, _, ht, _⟩ := I.tuple hq
    exact SeqAt.RcAt.tuple_str z tk ht hu X.prog X.w X.xe _ fin
  | opq =>
    obtain ⟨a, rfl, ⟨xs, hq⟩ | ⟨k, hq⟩⟩ := ht
    · cases rx
      obtain ⟨tk, rfl⟩ := ry
      obtain ⟨its, _, hp, _⟩ := I.list (SqL.of hq)
      exact SeqAt.RcAt.list_str z tk hp.isList hu X.prog X.w X.xe _ fin
    · cases rx
      obtain ⟨tk, rfl⟩ := ry
      obtain ⟨_, _, vs, _, ⟨cls, dd, data, sl⟩, es, ep, e, hx, hd, _⟩ := (show ObjOk X.prog X.w H s.heap a (.dK k) from I.hok a _ hq)
      obtain ⟨c1, _⟩ := hx
      simp only at c1 hd
      subst c1 hd
      exact DctE.rc_dict_str z tk e hu X.prog X.w X.xe _ fin
def rEqNil (K : PySem.W.Frag) (A : Around) : R2 := fun x y H Q => ∃ a b xs, x = .ref a ∧ y = .ref b ∧ SqL K H a xs ∧ SqL K H b [] ∧ A.units < cLine ∧ Q (.bl xs.isEmpty) H
theorem op_eqNil : OpR X (compareOp .Eq) (rEqNil X.K X.A) := by
  intro pins s σ H x y v u Q I rx ry h
  obtain ⟨a, b, xs, rfl, rfl, ha, hb, hu, q⟩ := h
  cases rx
  cases ry
  obtain ⟨i1, r1, p1, z1⟩ := I.list ha
  obtain ⟨i2, r2, p2, z2⟩ := I.list hb
  have e2 : i2 = [] := by cases r2; rfl
  subst e2
  cases xs with
  | nil =>
    have e1 : i1 = [] := by cases r1; rfl
    subst e1
    have := SeqAt.RcAt.lists (A := X.A) (e := fun _ => true) p1.isList p2.isList rfl hu (fun j h1 h2 => absurd h1 (by simp))
    exact this X.prog X.w X.xe _ ⟨.bl _, H, I, rfl, q⟩
  | cons x xs =>
    have hl := r1.length
    exact SeqAt.RcAt.lists_lengths (A := X.A) p1.isList p2.isList (by rw [List.size_toArray, ← hl]; rfl) hu X.prog X.w X.xe _ ⟨.bl _, H, I, rfl, q⟩
end
end L2
set_option Elab.async false
set_option linter.all false
set_option maxRecDepth 100000
namespace L2
open PySem PySem.Spec PyProof.Rows
theorem goOn {τ : St} {o : Option V} {v : V} {H : Hp} {tt : TT} {A B : St → Hp → Prop} (h : tt (some v :: τ) H fun ok H3 => if ok = true then A (some v :: τ) H3 else B (some v :: τ) H3) : gName 0 v (o :: τ) H fun σ2 H2 => tt σ2 H2 fun ok H3 => if ok = true then A σ2 H3 else B σ2 H3 := h
theorem goAlways {τ : St} {o : Option V} {v : V} {H : Hp} {A B : St → Hp → Prop} (h : A (some v :: τ) H) : gName 0 v (o :: τ) H fun σ2 H2 => tAlways σ2 H2 fun ok H3 => if ok = true then A σ2 H3 else B σ2 H3 := by
  show if true = true then A (some v :: τ) H else B (some v :: τ) H
  rw [if_pos rfl]
  exact h
theorem take_more {α : Type} {xs : List α} {i : Nat} {x : α} (e : xs[i]? = some x) : xs.take (i + 1) = xs.take i ++ [x] := by rw [List.take_add_one, e]; rfl
section
variable {K : PySem.W.Frag} {H : Hp} {a D : Addr} {xs : List V} {ts : List Th} {te : TE} {tt : TT} {fin : Hp → Prop} {τ : St} {o : Option V}
theorem compB_tup {p : Th → Bool} (ha : SqT K H a xs) (hA : AreTh K H ts xs) (hl : ts.length ≤ 1000000) (hD : H D = none)
    (h : ∀ t v H5 (Q : VK), t ∈ ts → Same H H5 → IsTh K H5 t v → (∀ H6, Same H5 H6 → Q (.bl (p t)) H6) → te (some v :: τ) H5 Q)
    (hf : ∀ H6, Same H H6 → H6 D = some (.lst ((ts.map p).map V.bl)) → fin H6) :
    ∃ W : Nat → Nat → List V → St → Hp → Prop, (∃ m, W 0 m [] (o :: τ) (upd H D (.lst []))) ∧ CompW (Itt K a) (gName 0) tAlways te D W fin := by
  have hlen := hA.length
  refine comp_tup (xs := xs) (fun i ys σ H5 => (∃ o', σ = o' :: τ) ∧ ys = ((ts.take i).map p).map V.bl ∧ Same H H5 ∧ H5 D = some (.lst ys)) ⟨⟨_, rfl⟩, rfl, (Same.refl H).put hD, upd_same⟩ ?_ ?_ ?_
  · rintro i ys σ H5 hi ⟨_, _, s5, h5⟩
    exact ⟨s5.up _ _ ha, h5⟩
  · rintro i x ys σ H5 hx ⟨⟨o', rfl⟩, rfl, s5, h5⟩
    obtain ⟨t, et, it⟩ := hA.got hx
    refine goAlways (h t x H5 _ (List.mem_of_getElem? et) s5 (IsTh.up s5.upT t x it) fun H6 s6 => ?_)
    refine ⟨s6 _ _ h5, ?_, ⟨_, rfl⟩, ?_, (s5.trans s6).put hD, upd_same⟩
    · rw [List.length_map, List.length_map, List.length_take]; exact Nat.lt_of_le_of_lt (Nat.le_trans (Nat.min_le_right _ _) hl) (by decide)
    · rw [take_more et, List.map_append, List.map_append]; rfl
  · rintro ys σ H5 ⟨_, rfl, s5, h5⟩
    refine hf H5 s5 ?_
    rw [h5, ← hlen, List.take_length]
theorem compT_tup {f : Th → Th} (ha : SqT K H a xs) (hA : AreTh K H ts xs) (hl : ts.length ≤ 1000000) (hD : H D = none)
    (h : ∀ t v H5 (Q : VK), t ∈ ts → Same H H5 → IsTh K H5 t v → (∀ v' H6, Same H5 H6 → IsTh K H6 (f t) v' → Q v' H6) → te (some v :: τ) H5 Q)
    (hf : ∀ H6 ws, Same H H6 → H6 D = some (.lst ws) → AreTh K H6 (ts.map f) ws → fin H6) :
    ∃ W : Nat → Nat → List V → St → Hp → Prop, (∃ m, W 0 m [] (o :: τ) (upd H D (.lst []))) ∧ CompW (Itt K a) (gName 0) tAlways te D W fin := by
  have hlen := hA.length
  refine comp_tup (xs := xs) (fun i ys σ H5 => (∃ o', σ = o' :: τ) ∧ AreTh K H5 ((ts.take i).map f) ys ∧ Same H H5 ∧ H5 D = some (.lst ys)) ⟨⟨_, rfl⟩, rfl, (Same.refl H).put hD, upd_same⟩ ?_ ?_ ?_
  · rintro i ys σ H5 hi ⟨_, _, s5, h5⟩
    exact ⟨s5.up _ _ ha, h5⟩
  · rintro i x ys σ H5 hx ⟨⟨o', rfl⟩, ar, s5, h5⟩
    obtain ⟨t, et, it⟩ := hA.got hx
    refine goAlways (h t x H5 _ (List.mem_of_getElem? et) s5 (IsTh.up s5.upT t x it) fun v' H6 s6 i6 => ?_)
    refine ⟨s6 _ _ h5, ?_, ⟨_, rfl⟩, ?_, (s5.trans s6).put hD, upd_same⟩
    · rw [← ar.length, List.length_map, List.length_take]; exact Nat.lt_of_le_of_lt (Nat.le_trans (Nat.min_le_right _ _) hl) (by decide)
    · rw [take_more et, List.map_append]
      have u6 : UpT K H6 (upd H6 D (.lst (ys ++ [v']))) := upT_set (s6 _ _ h5)
      exact AreTh.append (AreTh.up (s6.upT.trans u6) _ _ ar) (AreTh.one (IsTh.up u6 _ _ i6))
  · rintro ys σ H5 ⟨_, ar, s5, h5⟩
    refine hf H5 ys s5 h5 ?_
    rw [← hlen, List.take_length] at ar
    exact ar
theorem compB_str {x : Str} {p : Nat → Bool} (hl : x.cps.size ≤ 1000000) (hD : H D = none)
    (h : ∀ c H5 (Q : VK), c ∈ x.cps.toList → Same H H5 → (∀ H6, Same H5 H6 → Q (.bl (p c)) H6) → te (some (.str ⟨#[c]⟩) :: τ) H5 Q)
    (hf : ∀ H6, Same H H6 → H6 D = some (.lst ((x.cps.toList.map p).map V.bl)) → fin H6) :
    ∃ W : Nat → Nat → List V → St → Hp → Prop, (∃ m, W 0 m [] (o :: τ) (upd H D (.lst []))) ∧ CompW (Its x) (gName 0) tAlways te D W fin := by
  refine comp_str (x := x) (fun i ys σ H5 => (∃ o', σ = o' :: τ) ∧ ys = ((x.cps.toList.take i).map p).map V.bl ∧ Same H H5 ∧ H5 D = some (.lst ys)) ⟨⟨_, rfl⟩, rfl, (Same.refl H).put hD, upd_same⟩ ?_ ?_ ?_
  · rintro i ys σ H5 hi ⟨_, _, s5, h5⟩
    exact h5
  · rintro i c ys σ H5 hx ⟨⟨o', rfl⟩, rfl, s5, h5⟩
    have et : x.cps.toList[i]? = some c := by simpa using hx
    refine goAlways (h c H5 _ (List.mem_of_getElem? et) s5 fun H6 s6 => ?_)
    refine ⟨s6 _ _ h5, ?_, ⟨_, rfl⟩, ?_, (s5.trans s6).put hD, upd_same⟩
    · rw [List.length_map, List.length_map, List.length_take, Array.length_toList]; exact Nat.lt_of_le_of_lt (Nat.le_trans (Nat.min_le_right _ _) hl) (by decide)
    · rw [take_more et, List.map_append, List.map_append]; rfl
  · rintro ys σ H5 ⟨_, rfl, s5, h5⟩
    refine hf H5 s5 ?_
    rw [h5, ← Array.length_toList, List.take_length]
end
end L2
set_option Elab.async false
set_option linter.all false
set_option maxRecDepth 100000
namespace K01
open PySem PySem.Spec PyProof.Rows L2
def gdC (c : Nat) : Prop := 32 ≤ c ∧ c ≤ 126 ∧ c ≠ 37
def gdS (x : Str) : Prop := ∀ c ∈ x.cps.toList, gdC c
mutual
def gdT : Th → Prop
  | .str x => gdS x ∧ x.length ≤ 1000
  | .tup ts => gdTs ts
  | _ => True
def gdTs : List Th → Prop
  | [] => True
  | t :: ts => gdT t ∧ gdTs ts
end
theorem gdTs_all : ∀ {ts : List Th}, gdTs ts ↔ ∀ t ∈ ts, gdT t
  | [] => ⟨fun _ t m => (List.not_mem_nil m).elim, fun _ => trivial⟩
  | a :: ts => by
    constructor
    · rintro ⟨h1, h2⟩ t m
      rcases List.mem_cons.mp m with rfl | m
      · exact h1
      · exact gdTs_all.mp h2 t m
    · intro h
      exact ⟨h a List.mem_cons_self, gdTs_all.mpr fun t m => h t (List.mem_cons_of_mem _ m)⟩
mutual
def szT : Th → Nat
  | .tup ts => szTs ts + 1
  | _ => 1
def szTs : List Th → Nat
  | [] => 0
  | t :: ts => szT t + szTs ts
end
mutual
def dpT : Th → Nat
  | .tup ts => dpTs ts + 1
  | _ => 0
def dpTs : List Th → Nat
  | [] => 0
  | t :: ts => max (dpT t) (dpTs ts)
end
mutual
def wdT : Th → Nat
  | .tup ts => max ts.length (wdTs ts)
  | _ => 0
def wdTs : List Th → Nat
  | [] => 0
  | t :: ts => max (wdT t) (wdTs ts)
end
theorem dpT_mem : ∀ {ts : List Th} {t : Th}, t ∈ ts → dpT t ≤ dpTs ts
  | a :: ts, t, m => by
    rcases List.mem_cons.mp m with rfl | m
    · simp only [dpTs]; omega
    · have := dpT_mem m
      simp only [dpTs]; omega
theorem wdT_mem : ∀ {ts : List Th} {t : Th}, t ∈ ts → wdT t ≤ wdTs ts
  | a :: ts, t, m => by
    rcases List.mem_cons.mp m with rfl | m
    · simp only [wdTs]; omega
    · have := wdT_mem m
      simp only [wdTs]; omega
theorem dpTs_le : ∀ {ts : List Th} {n : Nat}, (∀ t ∈ ts, dpT t ≤ n) → dpTs ts ≤ n
  | [], n, _ => Nat.zero_le _
  | t :: ts, n, h => by
    have h1 := h t List.mem_cons_self
    have h2 := dpTs_le (ts := ts) fun x m => h x (List.mem_cons_of_mem _ m)
    simp only [dpTs]; omega
theorem wdTs_le : ∀ {ts : List Th} {n : Nat}, (∀ t ∈ ts, wdT t ≤ n) → wdTs ts ≤ n
  | [], n, _ => Nat.zero_le _
  | t :: ts, n, h => by
    have h1 := h t List.mem_cons_self
    have h2 := wdTs_le (ts := ts) fun x m => h x (List.mem_cons_of_mem _ m)
    simp only [wdTs]; omega
def LET : Str := "abcdefghijklmnopqrstuvwxyz"
def within (c : Nat) (j : Str) : Bool := !(Builtin.Str.occurrences j ⟨#[c]⟩ 0 j.length 1).isEmpty
def inL (c : Nat) : Bool := within c LET
def nameTh : Th → Bool
  | .str x => decide (1 ≤ x.length) && decide (x.length ≤ 8) && x.cps.toList.all inL
  | _ => false
def wholeTh (lo hi : Int) : Th → Bool
  | .int i => decide (lo ≤ i) && decide (i ≤ hi)
  | _ => false
def ltTh : Th → Th → Bool
  | .int i, .int j => decide (i < j)
  | .str x, .str y => decide (x.cps.toList < y.cps.toList)
  | _, _ => false
def risesTh (ts : List Th) : Bool := (List.zipWith ltTh ts (ts.drop 1)).all id
structure Fine (t : Th) (s d w : Nat) : Prop where
  gd : gdT t
  sz : szT t ≤ s
  dp : dpT t ≤ d
  wd : wdT t ≤ w
theorem rises_two (a b : Th) (r : List Th) : risesTh (a :: b :: r) = (ltTh a b && risesTh (b :: r)) := rfl
def adj {α : Type} (r : α → α → Prop) : List α → Prop
  | a :: b :: l => r a b ∧ adj r (b :: l)
  | _ => True
theorem pair_adj {α : Type} {r : α → α → Prop} : ∀ {l : List α}, l.Pairwise r → adj r l
  | [], _ => trivial
  | [a], _ => trivial
  | a :: b :: l, h => by
    have h' := List.pairwise_cons.mp h
    exact ⟨h'.1 b List.mem_cons_self, pair_adj h'.2⟩
theorem rises_ints : ∀ ss : List Int, risesTh (ss.map Th.int) = true ↔ adj (· < ·) ss
  | [] => by simp [risesTh, adj]
  | [a] => by simp [risesTh, adj]
  | a :: b :: l => by
    have ih := rises_ints (b :: l)
    rw [List.map_cons, List.map_cons, rises_two, Bool.and_eq_true]
    rw [List.map_cons] at ih
    rw [ih]
    show (decide (a < b) = true ∧ _) ↔ _
    rw [decide_eq_true_iff]
    exact Iff.rfl
end K01
set_option Elab.async false
set_option linter.all false
set_option maxRecDepth 100000
namespace L2
open PySem PySem.Spec PyProof.Rows
section
variable {X : Cx}
theorem pe_globS {x z : Str} {pos : Pos} (hg : Gl X x) (hm : ∃ t, X.mg x = some (.str z t)) (hd : (x == ("__debug__" : Str)) = false := by decide) : PE X (.Name x pos) (tC (.str z)) := by
  obtain ⟨t, hm⟩ := hm
  exact pe_glob hg hm ⟨t, rfl⟩ hd
theorem pe_globN {x : Str} {z : Int} {pos : Pos} (hg : Gl X x) (hm : ∃ t, X.mg x = some (.int z t)) (hd : (x == ("__debug__" : Str)) = false := by decide) : PE X (.Name x pos) (tC (.int z)) := by
  obtain ⟨t, hm⟩ := hm
  exact pe_glob hg hm ⟨t, rfl⟩ hd
end
end L2
set_option maxRecDepth 100000
set_option linter.all false
namespace RevA
open PySem
section
variable {prog : Program} {w : World} {A : Around} {E : Value → Shared → Prop} {s : Shared} {r t : Addr} {its : Array Value} {i : Int}
def IsRv (h : Heap) (r t : Addr) (i : Int) : Prop := ∃ o, h.get? r = some o ∧ o.cls = .type "reversed" ∧ o.data = .fields #[.ref t, rawInt i]
theorem IsRv.ty (x : IsRv s.heap r t i) : s.TypeIs (.ref r) "reversed" := let ⟨o, ho, hc, _⟩ := x; ⟨o, ho, hc⟩
end
end RevA
set_option maxRecDepth 100000
set_option linter.all false
namespace RevA
open PySem PyProof.Rows
section
variable {prog : Program} {w : World} {A : Around} {E : Value → Shared → Prop} {s : Shared} {r t : Addr} {its : Array Value}
end
end RevA
set_option maxRecDepth 100000
set_option linter.all false
namespace RevA
open PySem PyProof.Rows
section
variable {prog : Program} {w : World} {A : Around} {E : Value → Shared → Prop} {s : Shared} {r t : Addr} {its : Array Value}
theorem IsRv.at {h h' : Heap} {i : Int} (x : IsRv h r t i) (e : ∀ o, h.get? r = some o → h'.get? r = some o) : IsRv h' r t i := let ⟨o, ho, q⟩ := x; ⟨o, e o ho, q⟩
end
section
variable {prog : Program} {w : World} {A : Around} {E : Value → Shared → Prop} {s : Shared} {R : Result → Shared → Prop} {I S : Addr} {fp wr : List Addr} {n : Nat} {P : Nat → Value → Prop} {St : Nat → Heap → Prop} {T : String}
end
end RevA
set_option maxRecDepth 100000
set_option linter.all false
namespace RevA
open PySem PyProof.Rows
section
variable {prog : Program} {w : World} {A : Around} {E : Value → Shared → Prop} {s : Shared} {I : Addr} {fp wr : List Addr} {n : Nat} {P : Nat → Value → Prop} {St : Nat → Heap → Prop} {T : String}
end
end RevA
set_option maxRecDepth 100000
set_option linter.all false
namespace RevA
open PySem PyProof.Rows
section
variable {prog : Program} {w : World} {A : Around} {E : Value → Shared → Prop} {s : Shared} {r t : Addr} {its : Array Value}
end
end RevA
set_option Elab.async false
set_option linter.all false
set_option maxRecDepth 100000
namespace RevA
open PySem PyProof.Rows
section
variable {prog : Program} {w : World} {A : Around} {E : Value → Shared → Prop} {s : Shared} {I : Addr} {fp wr : List Addr} {n : Nat} {P : Nat → Value → Prop} {St : Nat → Heap → Prop} {T : String}
end
section
variable {prog : Program} {w : World} {A : Around} {E : Value → Shared → Prop} {s : Shared}
end
end RevA
set_option Elab.async false
set_option linter.all false
set_option maxRecDepth 100000
namespace IdxT
open PySem PySem.SeqAt PySem.MeetsSeq
open PySem.AutoSeq1 (wpAny_loadPart')
end IdxT
namespace L2
open PySem PySem.Spec PyProof.Rows
section
variable {X : Cx} {p p2 pos pos2 : Pos} {a : Expr} {t : TA}
end
end L2
set_option Elab.async false
set_option linter.all false
set_option maxRecDepth 100000
namespace L2
open PySem PySem.Spec PyProof.Rows
section
variable {X : Cx} {e : Expr} {t1 t2 : TE}
end
section
variable {X : Cx} {p p2 pos pos2 : Pos} {a : Expr} {t : TA}
end
section
variable {X : Cx}
structure TopD (K : PySem.W.Frag) (w : World) (a : Addr) : Prop where
  at' : ∃ es n, K.lookup a = some ⟨.type "dict", none, .dict es n, #[]⟩ ∧ PySem.W.KeysLit w.params es.toList
end
end L2
set_option Elab.async false
set_option linter.all false
set_option maxRecDepth 100000
namespace L2
open PySem PySem.Spec PyProof.Rows
section
variable {X : Cx} {k : Nat} {C : Addr} {m x : Str} {ps : List Str} {sp : Sp} {o e : Expr} {es : List Expr} {ta : TE} {t : TA} {p pos apos : Pos}
end
end L2
set_option linter.all false
set_option maxRecDepth 100000
namespace EnuT
open PySem
section
variable {prog : Program} {w : World} {A : Around} {E : Value → Shared → Prop} {s : Shared}
theorem nextT {it t : Addr} {i : Nat} {its : Array Value} {x : Value} {Q : Value → Shared → Prop} (hi : s.heap.IsTupleIter it t i) (ht : s.heap.IsTuple t its) (hx : its[i]? = some x)
    (q : ∀ h', h'.IsTupleIter it t (i + 1) → Heap.SameBut it s.heap h' → Q x { s with heap := h' }) : wpAny (model prog w) A (Builtin.SmallTypes.nextOf (.ref it)) Q E s := by
  obtain ⟨u, hu, hc, hd⟩ := id hi; obtain ⟨p, hp, _, n, dp⟩ := ht; unfold Builtin.SmallTypes.nextOf
  refine wpAny_bind (wpAny_callSpecial?_slot (name := Str.ofString "__next__") hi.typeIs F.slot_tuple_iterator_next (wpAny_call_entry F.slot_tuple_iterator_next hi.typeIs F.entry_tuple_iterator_next ?_ (F.args_tuple_iterator_next_1 _)))
  show wpAny _ _ (field (.ref it) 0 >>= _) _ _ s; refine wpAny_bind (wpAny_field hu hd (x := .ref t) rfl ?_)
  show wpAny _ _ (if (Value.ref t == Value.none) = true then _ else _) _ _ s; rw [if_neg (show ¬ ((Value.ref t == Value.none) = true) from Bool.false_ne_true)]
  show wpAny _ _ (field (.ref it) 1 >>= _) _ _ s; refine wpAny_bind (wpAny_field hu hd (x := .int i 0) rfl ?_)
  show wpAny _ _ (seqItems? (.ref t) >>= _) _ _ s; refine wpAny_bind (wpAny_seqItems hp dp ?_)
  simp only [Int.toNat_natCast, hx]; refine wpAny_bind (wpAny_setField hu hd (by simp) (wpAny_pure ⟨x, rfl, wpAny_pure (q _ ?_ (Heap.SameBut.update ..))⟩))
  exact ⟨_, Heap.get?_update_self _ hu (Obj.isFreed_of_fields (Obj.data_mapFields hd _)), (Obj.cls_mapFields ..).trans hc, by rw [Obj.data_mapFields hd]; simp [rawInt]⟩
theorem endT {it t : Addr} {i : Nat} {its : Array Value} {Q : Value → Shared → Prop} (hh : A.handled = none) (hi : s.heap.IsTupleIter it t i) (ht : s.heap.IsTuple t its) (hx : its[i]? = none)
    (q : ∀ h' e, Heap.ExtBut it s.heap h' → (∃ o, h'.get? e = some o ∧ o.cls = .type "StopIteration") → E (.ref e) { s with heap := h' }) : wpAny (model prog w) A (Builtin.SmallTypes.nextOf (.ref it)) Q E s := by
  obtain ⟨u, hu, hc, hd⟩ := id hi; obtain ⟨p, hp, _, n, dp⟩ := ht; unfold Builtin.SmallTypes.nextOf
  refine wpAny_bind (wpAny_callSpecial?_slot (name := Str.ofString "__next__") hi.typeIs F.slot_tuple_iterator_next (wpAny_call_entry F.slot_tuple_iterator_next hi.typeIs F.entry_tuple_iterator_next ?_ (F.args_tuple_iterator_next_1 _)))
  show wpAny _ _ (field (.ref it) 0 >>= _) _ _ s; refine wpAny_bind (wpAny_field hu hd (x := .ref t) rfl ?_)
  show wpAny _ _ (if (Value.ref t == Value.none) = true then _ else _) _ _ s; rw [if_neg (show ¬ ((Value.ref t == Value.none) = true) from Bool.false_ne_true)]
  show wpAny _ _ (field (.ref it) 1 >>= _) _ _ s; refine wpAny_bind (wpAny_field hu hd (x := .int i 0) rfl ?_)
  show wpAny _ _ (seqItems? (.ref t) >>= _) _ _ s; refine wpAny_bind (wpAny_seqItems hp dp ?_)
  simp only [Int.toNat_natCast, hx]; refine wpAny_bind (wpAny_rule (wpAny_bind (wpAny_setField hu hd (by simp) ?_)))
  show wpAny _ _ (newExc (.type "StopIteration") [] >>= _) _ _ _; refine wpAny_bind ?_; simp only [newExc, newTuple]
  refine wpAny_bind (wpAny_newObj_type ?_ (by size_fits)); refine wpAny_bind (m := firstArgMember _ _) (wpAny_of_eq (a := Value.none) (by first | rfl | (simp only [firstArgMember]; rfl)) ?_)
  refine wpAny_newObj_type ?_ (by size_fits); simp only [raiseNew]; refine wpAny_bind (wpAny_handled ?_)
  first | rw [show A.in1.handled = none from hh] | rw [hh]
  refine wpAny_bind (wpAny_pure (wpAny_throw ?_)); exact q _ _ (((Heap.SameBut.update ..).extBut.push _).push _) ⟨_, Heap.get?_push_size _ rfl, rfl⟩
end
section
variable {prog : Program} {w : World} {A : Around} {E : Value → Shared → Prop} {s : Shared}
end
end EnuT
set_option linter.all false
set_option maxRecDepth 100000
namespace EnuT
open PySem
end EnuT
set_option Elab.async false
set_option linter.all false
set_option maxRecDepth 100000
namespace L2
open PySem PySem.Spec PyProof.Rows
section
variable {X : Cx} {es : List Expr} {k : Nat} {p2 pos pos2 : Pos} {a : Expr} {t : TA}
end
section
variable {X : Cx}
end
section
variable {X : Cx} {p p2 pos pos2 : Pos} {a b : Expr} {t : TA}
end
end L2
namespace EX
open PySem
structure Noted (l : List Env) (e T : Addr) (oe : Obj) (h h' : Heap) : Prop where
  keep : ∀ b o, b ≠ e → b ∉ l.filterMap (·.frame) → h.get? b = some o → h'.get? b = some o
  slot : ∀ b o, b ≠ e → h.get? b = some o → ∃ sl, h'.get? b = some { o with slots := sl }
  exc : h'.get? e = some (oe.mapFields (·.setIfInBounds 1 (.ref T)))
  new : h.objs.size ≤ T
  tb : ∃ oT ts, h'.get? T = some oT ∧ oT.data = .fields ts ∧ 3 < ts.size
section
variable {M : Model} {A : Around} {E : Value → Shared → Prop} {s : Shared} {env : Env} {outer : List Env} {base : Heap} {L e T : Addr} {oe : Obj} {vs : Array Value} {Q : Unit → Shared → Prop}
end
end EX
namespace EX
open PySem
abbrev Lk {α : Type} (M : Model) (h : Heap) (t : Sem α) (r : α) : Prop :=
  ∀ (A : Around) (Q : α → Shared → Prop) (E : Value → Shared → Prop) (s : Shared), (∀ b o, h.get? b = some o → s.heap.get? b = some o) → Q r s → wpAny M A t Q E s
section
variable {M : Model} {A : Around} {E : Value → Shared → Prop} {s : Shared} {env : Env}
end
end EX
namespace EX
open PySem
section
variable {M : Model} {A : Around} {E : Value → Shared → Prop} {s : Shared} {env : Env}
end
section
variable {prog : Program} {w : World} {A : Around} {E : Value → Shared → Prop} {s : Shared} {env : Env}
end
end EX
set_option maxRecDepth 100000
namespace EX
open PySem
section
variable {prog : Program} {w : World} {A : Around} {E : Value → Shared → Prop} {h : Heap} {g : Array GenState} {d : Drawn} {t : Nat} {os : OsState}
variable {nm q : Str} {C N : Addr} {bs bm bmB : List Value} {hdct : Bool} {sn : List Str} {sub : List Value} {ab : Bool} {col : Option Bool} {dd : Option Addr} {k0 k1 k2 k3 k5 : Option Value} {B newId initId : String}
abbrev tupO (rest : List Value) : Obj := { cls := .type "tuple", data := .seq rest.toArray }
abbrev excO (C t : Addr) : Obj := { cls := .ref C, data := .fields #[.ref t, .none, .none, .none, .bool false, .none] }
abbrev made (h : Heap) (C : Addr) (rest : List Value) : Heap := (h.push (tupO rest)).push (excO C h.objs.size)
end
end EX
set_option maxRecDepth 100000
namespace EX
open PySem
section
variable {prog : Program} {w : World} {A : Around} {E : Value → Shared → Prop} {h : Heap} {g : Array GenState} {d : Drawn} {t : Nat} {os : OsState}
variable {nm q : Str} {C N : Addr} {bs bm bmB : List Value} {hdct : Bool} {sn : List Str} {sub : List Value} {ab : Bool} {col : Option Bool} {dd : Option Addr} {k0 k1 k2 k3 k5 : Option Value} {B newId initId : String}
end
end EX
set_option maxRecDepth 100000
namespace EX
open PySem Builtin Builtin.ObjectAttr
structure SetOk (M : Model) (h : Heap) (x C : Addr) (name : Str) : Prop where
  sa : Lk M h (typeLookup (.ref C) "__setattr__") (some (.builtin "object.__setattr__"))
  no : Lk M h (typeLookup (.ref C) name) none
  rf : Lk M h (refuseIfOverridden (.ref x) "__setattr__") ()
  ob : Lk M h (isSubtype (.ref C) (.type "object")) true
  cd : ∃ cd, Lk M h (classData C) cd ∧ cd.hasDict = true
structure SaFacts : Prop where
  slot : Slot "object" "__setattr__" "object.__setattr__"
  entry : entryFor table "object.__setattr__" = some Builtin.«object.__setattr__»
  kind : builtinKind "object.__setattr__" = some .slot
  split : splitId "object.__setattr__" = some ("object", "__setattr__")
  args : ∀ a b c : Value, argsOk "object.__setattr__" ⟨[a, b, c], []⟩
section
variable {prog : Program} {w : World} {A : Around} {E : Value → Shared → Prop} {s : Shared} {x C : Addr} {o : Obj} {name : Str} {v : Value}
end
end EX
set_option maxRecDepth 100000
namespace EX
open PySem Builtin Builtin.ObjectAttr
structure GetOk (M : Model) (h : Heap) (C : Addr) (name : Str) : Prop where
  ga : Lk M h (typeLookup (.ref C) "__getattribute__") (some (.builtin "BaseException.__getattribute__"))
  hk : Lk M h (typeLookup (.ref C) "__getattr__") none
  no : Lk M h (typeLookup (.ref C) name) none
  ob : Lk M h (isSubtype (.ref C) (.type "BaseException")) true
  cd : ∃ cd, Lk M h (classData C) cd ∧ cd.hasDict = true
section
variable {prog : Program} {w : World} {A : Around} {E : Value → Shared → Prop} {s : Shared} {x C dx : Addr} {o : Obj} {name : Str} {v : Value} {mA : Str → Option Value} {vs : Array Value}
end
end EX
set_option maxRecDepth 100000
namespace EX
open PySem
section
variable {prog : Program} {w : World} {A : Around} {E : Value → Shared → Prop} {h : Heap} {g : Array GenState} {d : Drawn} {t : Nat} {os : OsState}
variable {nm q : Str} {C N : Addr} {bs bm bmB : List Value} {hdct : Bool} {sn : List Str} {sub : List Value} {ab : Bool} {col : Option Bool} {dd : Option Addr} {k0 k1 k2 k3 k5 : Option Value} {B newId initId : String}
end
end EX
set_option maxRecDepth 100000
namespace EX
open PySem PySem.W Builtin Builtin.ObjectAttr
section
variable {prog : Program} {w : World} {A : Around} {E : Value → Shared → Prop} {s : Shared} {x C : Addr} {o : Obj} {od : Option Obj} {K : Frag}
end
end EX
namespace L2
open PySem PySem.Spec PyProof.Rows
def XO (a C : Addr) (od : Option Addr) (new : Bool) (h : Heap) : Prop := ∃ vs sl, h.get? a = some ⟨.ref C, od, .fields vs, sl⟩ ∧ 1 < vs.size ∧ (new = true → vs[1]? = some .none)
abbrev XHO (a C : Addr) (od : Option Addr) (new : Bool) : HO := .ext (XO a C od new)
def DO (a : Addr) (fs : List (Str × V)) (h : Heap) : Prop := fs.length ≤ 100 ∧ ∃ mA, h.Ns1 a mA ∧ (∀ f, RelO (fs.lookup f) (mA f)) ∧ PySem.Within mA (fs.map (·.1))
abbrev DHO (a : Addr) (fs : List (Str × V)) : HO := .ext (DO a fs)
section
variable {P : Program} {w : World} {H : Hp} {h : Heap} {a C : Addr} {od : Option Addr} {new : Bool} {fs : List (Str × V)}
theorem XO.ok (x : XO a C od new h) : ObjOk P w H h a (XHO a C od new) := by
  obtain ⟨vs, sl, e, z⟩ := x
  exact ⟨⟨vs, sl, e, z⟩, ⟨_, e⟩, fun h1 h2 ⟨vs, sl, e, z⟩ k => ⟨vs, sl, k _ e, z⟩⟩
theorem DO.ok (x : DO a fs h) : ObjOk P w H h a (DHO a fs) := by
  obtain ⟨z, mA, ⟨o, es, ep, e, r⟩, q⟩ := x
  exact ⟨⟨z, mA, ⟨o, es, ep, e, r⟩, q⟩, ⟨o, e⟩, fun h1 h2 ⟨z, mA, ⟨o, es, ep, e, r⟩, q⟩ k => ⟨z, mA, ⟨o, es, ep, k _ e, r⟩, q⟩⟩
end
def veMro : List Value := [.type "ValueError", .type "Exception", .type "BaseException", .type "object"]
def onlyVE : List Value → Bool
  | .ref _ :: r => onlyVE r
  | l => l == veMro
structure XCls (K : PySem.W.Frag) (C : Addr) : Prop where
  sa : PySem.W.findIn K (.ref C) "__setattr__" = some (some (.builtin "object.__setattr__"))
  ga : PySem.W.findIn K (.ref C) "__getattribute__" = some (some (.builtin "BaseException.__getattribute__"))
  hk : PySem.W.findIn K (.ref C) "__getattr__" = some none
  ca : PySem.W.findIn K (.ref C) "__class__" = some (some (.builtin "object.__class__"))
  be : PySem.W.mroIn K C (.type "BaseException") = some true
  ob : PySem.W.mroIn K C (.type "object") = some true
  hd : PySem.W.hasDictIn K C = true
  ty : PySem.W.typeIn K (.ref C) = some (.type "type")
  rf : ((PySem.W.clsIn K C).any fun cd => onlyVE cd.mro) = true
  gs : PySem.W.specialIn K (.builtin "object.__class__") "__get__" = some (some (.builtin "getset_descriptor.__get__"))
  tk : PySem.W.takesIn K (.builtin "object.__class__") = some true
section
variable {K : PySem.W.Frag} {C x : Addr} {M : Model} {h : Heap} {f : Str} {o : Obj}
end
section
variable {X : Cx} {pins : List (Addr × Obj)} {σ : St} {H : Hp} {s : Shared} {h' : Heap} {t' : Nat}
end
section
variable {X : Cx} {o e value : Expr} {f : Str} {pos pos' : Pos} {ta tv : TE}
end
end L2
namespace L2
open PySem PySem.Spec PyProof.Rows
def xIn (K : PySem.W.Frag) (C : Addr) : Bool :=
  match K.lookup C with
  | some ⟨.type "type", _, .cls cd, ⟨[_, _, _, _, some (.builtin n), _]⟩⟩ => match cd.mro with
    | .ref C' :: bm => C' == C && n == "ValueError.__new__" && !cd.hasDel && PySem.W.tailIn K veMro bm
    | _ => false
  | _ => false
structure XMk (K : PySem.W.Frag) (C f : Addr) : Prop where
  made : xIn K C = true
  init : PySem.W.findIn K (.ref C) "__init__" = some (some (.ref f))
  fn : PySem.W.isFn K (.ref f) = true
  kp : PySem.W.keepIn K (.ref C) = true
structure XMk0 (K : PySem.W.Frag) (C : Addr) : Prop where
  made : xIn K C = true
  init : PySem.W.findIn K (.ref C) "__init__" = some (some (.builtin "ValueError.__init__"))
  kp : PySem.W.keepIn K (.ref C) = true
section
variable {X : Cx} {CX : CXT} {k : Nat} {f C : Addr} {fd : FuncData} {ps : List Str} {sp : Sp} {E : XK} {x m : Str} {p pos : Pos} {e : Expr} {es : List Expr} {t : TA}
end
def Cx.tr (X : Cx) (pn : List (Addr × Obj)) (W : St → Hp → Addr → Addr → Option Addr → Prop) : Cx := { X with pn := pn, xe := fun v s' => ∃ e σ' H' C od, v = .ref e ∧ Inv { X with pn := pn } [] σ' H' s' ∧ H' e = some (XHO e C od true) ∧ W σ' H' e C od }
def Cx.ec (X : Cx) (e : Addr) : Cx := { X with A := X.A.mark (some (.ref e)), calm := false, xe := fun _ _ => False }
section
variable {X : Cx} {pins pn : List (Addr × Obj)} {σ : St} {H : Hp} {s : Shared} {e : Addr} {W : St → Hp → Addr → Addr → Option Addr → Prop}
end
end L2
namespace L2
open PySem PySem.Spec PyProof.Rows
section
variable {X : Cx} {pins : List (Addr × Obj)} {σ : St} {H : Hp} {s : Shared}
end
section
variable {X : Cx} {W : St → Hp → Addr → Addr → Option Addr → Prop}
end
section
variable {X : Cx}
end
section
variable {X : Cx}
end
end L2
namespace EX
open PySem
def QV (h : Heap) (vs : Array Value) : Prop := vs[1]? = some .none ∨ ∃ T oT ts, vs[1]? = some (.ref T) ∧ h.get? T = some oT ∧ oT.data = .fields ts ∧ ts[3]? = some .none
section
variable {M : Model} {A : Around} {E : Value → Shared → Prop} {s : Shared} {env : Env} {outer : List Env} {base : Heap} {L e T : Addr} {oe : Obj} {vs : Array Value} {Q : Unit → Shared → Prop}
end
end EX
namespace L2
open PySem PySem.Spec PyProof.Rows
def QX (h : Heap) (a : Addr) : Prop := ∃ oe vs, h.get? a = some oe ∧ oe.data = .fields vs ∧ EX.QV h vs
abbrev XWT := St → Hp → Addr → Addr → Option Addr → Prop
def CX1 (P : Program) (w : World) : CXT := fun outer H s E v s' => ∃ a H' C od, v = .ref a ∧ s'.os = s.os ∧ AllBare s'.gens ∧ Un (frs outer) [] H H' s.heap s'.heap ∧ HOk P w H' s'.heap ∧ H' a = some (XHO a C od false) ∧ QX s'.heap a ∧ E (.ref C) od H'
section
variable {X : Cx} {pins : List (Addr × Obj)} {σ : St} {H : Hp} {s s' : Shared}
end
section
variable {P : Program} {w : World} {K : PySem.W.Frag} {mg : Str → Option Value} {base : Heap}
end
def FnX (P : Program) (w : World) (K : PySem.W.Frag) (mg : Str → Option Value) (base : Heap) (k : Nat) (x : Str) (ps : List Str) (sp : Sp) : Prop :=
  ∃ f fd, FnOk P w K mg base (CX1 P w) k f fd ps sp ∧ Binds K fd ps [] ∧ PySem.W.keepIn K (.ref f) = true ∧ mg x = some (.ref f)
section
variable {X : Cx} {W : XWT} {k : Nat} {x : Str} {ps : List Str} {sp : Sp} {p pos : Pos} {e : Expr} {es : List Expr} {t : TA} {te : TE}
end
def Cx.tx (X : Cx) (pn : List (Addr × Obj)) (W : XWT) : Cx := { X with pn := pn, xe := fun v s' => ∃ e σ' H' C od new, v = .ref e ∧ Inv { X with pn := pn } [] σ' H' s' ∧ H' e = some (XHO e C od new) ∧ QX s'.heap e ∧ W σ' (upd H' e (XHO e C od false)) e C od }
section
variable {X : Cx} {pins pn : List (Addr × Obj)} {σ : St} {H : Hp} {s : Shared} {e : Addr} {W : XWT}
end
section
variable {X : Cx}
end
end L2
namespace L2
open PySem PySem.Spec PyProof.Rows
end L2
namespace L2
open PySem PySem.Spec PyProof.Rows
section
variable {X : Cx}
end
section
variable {X : Cx} {pins : List (Addr × Obj)} {σ : St} {H : Hp} {s : Shared}
end
end L2
namespace L2
open PySem PySem.Spec PyProof.Rows
section
variable {X : Cx} {W : XWT} {k : Nat} {f C : Addr} {fd : FuncData} {m : Str} {ps : List Str} {sp : Sp} {o e : Expr} {es : List Expr} {ta : TE} {t : TA} {p pos apos : Pos}
end
end L2
namespace L2
open PySem PySem.Spec PyProof.Rows
section
variable {X : Cx}
end
end L2
namespace L2
open PySem PySem.Spec PyProof.Rows
structure XOk (K : PySem.W.Frag) (C : Addr) (as : List Addr) (x : Str) : Prop where
  xc : XCls K C
  mro : ∀ b, PySem.W.mroIn K C b = some ((as.map Value.ref ++ veMro).contains b)
  here : (PySem.W.clsIn K C).isSome = true
  no : NoAttr K C x
  made : xIn K C = true
  kp : PySem.W.keepIn K (.ref C) = true
theorem XOk.up {K : PySem.W.Frag} {C M : Addr} {y : Str} (x : XOk K C [C, M] y) : PySem.W.mroIn K C (.ref M) = some true := by
  rw [x.mro]
  congr 1
  rw [List.contains_iff_mem]
  simp
end L2
namespace L2
open PySem PySem.Spec PyProof.Rows
theorem FnOk.noX {P : Program} {w : World} {K : PySem.W.Frag} {mg : Str → Option Value} {base : Heap} {k : Nat} {f : Addr} {fd : FuncData} {ps : List Str} {sp : Sp} (F : FnOk P w K mg base (CX1 P w) k f fd ps sp) :
    FnOk P w K mg base CX0 k f fd ps (fun vs H Q _ => sp vs H Q E0) :=
  ⟨fun vs H Q E h => F.len vs H Q E0 h, fun A outer s H args us vs Q E hr he hb hv h => codeAny_mono (F.run A outer s H args us vs Q E0 hr he hb hv h) fun r s' q => by
    cases r with
    | ok v => cases v <;> exact q
    | error v =>
      obtain ⟨a, H', C, od, _, _, _, _, _, _, _, z⟩ := q
      exact z.elim⟩
theorem FnX.fn {P : Program} {w : World} {K : PySem.W.Frag} {mg : Str → Option Value} {base : Heap} {k : Nat} {x : Str} {ps : List Str} {sp : Sp} (G : FnX P w K mg base k x ps sp) : Fn P w K mg base k x ps (fun vs H Q _ => sp vs H Q E0) := by
  obtain ⟨f, fd, F, r⟩ := G
  exact ⟨f, fd, F.noX, r⟩
def rSlSg : V → Option Int → Option Int → Hp → VK → Prop := fun x _ hi H Q => ∃ z : Str, x = .str z ∧ z.length ≤ sizeLine ∧ ∀ z' : Str, z'.length ≤ z.length → (∀ k : Nat, hi = some (k : Int) → z'.length ≤ k) → (∀ c ∈ z'.cps.toList, c ∈ z.cps.toList) → Q (.str z') H
theorem pick_mem (x : Str) (is : List Nat) : ∀ c ∈ (Str.mk (is.filterMap (x.cps[·]?)).toArray).cps.toList, c ∈ x.cps.toList := fun c m => by
  have m : c ∈ is.filterMap (x.cps[·]?) := by simpa using m
  obtain ⟨i, _, e⟩ := List.mem_filterMap.mp m
  have := Array.mem_of_getElem? e
  exact Array.mem_toList_iff.mpr this
theorem ix_hi (l : Option Int) (k n : Nat) : (Builtin.Str.strSliceIndices l (some (k : Int)) 1 n).length ≤ k := by
  unfold Builtin.Str.strSliceIndices sliceRange
  cases l <;> simp only [show (1 : Int) > 0 by decide, if_true, List.length_map, List.length_range] <;> (split <;> (try split) <;> (try split) <;> (try simp only [Int.ediv_one]) <;> omega)
theorem slice_hi (x : Str) (l : Option Int) (k : Nat) : (Txt.slice x l (some (k : Int))).length ≤ k := by
  have h := ix_hi l k x.length
  unfold Txt.slice
  split
  · rename_i c
    simp only [Bool.and_eq_true, beq_iff_eq] at c
    omega
  · show (List.filterMap _ (Builtin.Str.strSliceIndices l (some (k : Int)) 1 x.length)).toArray.size ≤ k
    rw [List.size_toArray]
    exact Nat.le_trans (List.length_filterMap_le _ _) h
theorem slice_mem (x : Str) (l u : Option Int) : ∀ c ∈ (Txt.slice x l u).cps.toList, c ∈ x.cps.toList := by
  unfold Txt.slice
  split
  · exact fun _ m => m
  · exact pick_mem x _
section
variable {X : Cx} {e : Expr} {te t1 t2 : TE} {p2 p3 p4 pos : Pos} {j1 : Nat}
theorem sl_strG : SlR X rSlSg := by
  intro pins s σ H x v vl vu lo hi sl Q I rx hs pl pu h
  obtain ⟨z, rfl, hz, q⟩ := h
  obtain ⟨t, rfl⟩ := rx
  have q' : ∀ (l u : Option Int) (t' : Tok) (k : Nat), u = hi → EP X pins σ Q (.str (Txt.slice z l u) t') { s with toks := k } := fun l u t' k e => ⟨.str _, H, I.tok _, ⟨t', rfl⟩, q _ (Txt.slice_le z l u) (fun k ek => by rw [e, ek]; exact slice_hi z l k) (slice_mem z l u)⟩
  refine ⟨"str", _, PySem.F.slot_str_getitem.lookup, typeIs_str _ _ _, ?_⟩
  cases pl with
  | none => cases pu with
    | none => exact wpAny_getItem_str_slice (l := none) (u := none) (st := none) hs rfl (post_val_or_str ⟨Nat.le_trans (Txt.slice_le z _ _) hz, fun t' k => q' none none t' k rfl⟩)
    | int j uj => exact wpAny_getItem_str_slice (l := none) (u := some (j, uj)) (st := none) hs rfl (post_val_or_str ⟨Nat.le_trans (Txt.slice_le z _ _) hz, fun t' k => q' none (some j) t' k rfl⟩)
  | int i ui => cases pu with
    | none => exact wpAny_getItem_str_slice (l := some (i, ui)) (u := none) (st := none) hs rfl (post_val_or_str ⟨Nat.le_trans (Txt.slice_le z _ _) hz, fun t' k => q' (some i) none t' k rfl⟩)
    | int j uj => exact wpAny_getItem_str_slice (l := some (i, ui)) (u := some (j, uj)) (st := none) hs rfl (post_val_or_str ⟨Nat.le_trans (Txt.slice_le z _ _) hz, fun t' k => q' (some i) (some j) t' k rfl⟩)
def isInts : List Expr → List Int → Bool
  | [], [] => true
  | .Constant (.int k) _ _ :: es, n :: ns => k == n && isInts es ns
  | _, _ => false
def tInts : List Int → TA
  | [] => tNil
  | n :: ns => tCons (tC (.int n)) (tInts ns)
theorem pa_ints {es : List Expr} (ns : List Int) (h : isInts es ns = true) : PA X es (tInts ns) := by
  induction es generalizing ns with
  | nil => cases ns with
    | nil => exact pa_nil
    | cons n ns => simp [isInts] at h
  | cons e es ih =>
    cases ns with
    | nil => simp [isInts] at h
    | cons n ns =>
      cases e with
      | Constant c j p =>
        cases c with
        | int k =>
          have h' : (k == n) = true ∧ isInts es ns = true := by simpa [isInts, Bool.and_eq_true] using h
          obtain rfl := beq_iff_eq.mp h'.1
          exact pa_cons pe_int (ih ns h'.2) rfl
        | _ => simp [isInts] at h
      | _ => simp [isInts] at h
end
end L2
namespace L2
open PySem PySem.Spec PyProof.Rows
section
variable {κ : Type} [DecidableEq κ]
def valV (kvs : List (κ × V)) (k : κ) : Option V := (kvs.find? fun kv => decide (kv.1 = k)).map (·.2)
def putK (kvs : List (κ × V)) (k : κ) (v : V) : List (κ × V) :=
  if (kvs.any fun kv => decide (kv.1 = k)) = true then kvs.map (fun kv => if kv.1 = k then (kv.1, v) else kv) else kvs ++ [(k, v)]
def dropK (kvs : List (κ × V)) (k : κ) : List (κ × V) := kvs.filter fun kv => decide (kv.1 ≠ k)
theorem valV_pos {p : κ × V} {r : List (κ × V)} {k : κ} (e : p.1 = k) : valV (p :: r) k = some p.2 := by simp [valV, List.find?_cons, e]
theorem valV_neg {p : κ × V} {r : List (κ × V)} {k : κ} (e : ¬ p.1 = k) : valV (p :: r) k = valV r k := by simp [valV, List.find?_cons, e]
theorem valV_any (k : κ) : ∀ kvs : List (κ × V), (kvs.any fun kv => decide (kv.1 = k)) = (valV kvs k).isSome
  | [] => rfl
  | p :: r => by
    rw [List.any_cons]
    by_cases e : p.1 = k
    · simp only [valV_pos e, decide_eq_true e, Bool.true_or, Option.isSome_some]
    · rw [valV_neg e, decide_eq_false e, Bool.false_or]; exact valV_any k r
theorem valV_map (k j : κ) (y : V) : ∀ kvs : List (κ × V), valV (kvs.map fun kv => if kv.1 = k then (kv.1, y) else kv) j = (valV kvs j).map fun x => if j = k then y else x
  | [] => rfl
  | p :: r => by
    have ih := valV_map k j y r
    rw [List.map_cons]
    by_cases h : p.1 = k
    · rw [if_pos h]
      by_cases e : p.1 = j
      · rw [valV_pos (p := (p.1, y)) e, valV_pos e, Option.map_some, if_pos (e.symm.trans h)]
      · rw [valV_neg (p := (p.1, y)) e, valV_neg e, ih]
    · rw [if_neg h]
      by_cases e : p.1 = j
      · rw [valV_pos (p := p) e, valV_pos e, Option.map_some, if_neg (fun z => h (e.trans z))]
      · rw [valV_neg (p := p) e, valV_neg e, ih]
theorem valV_snoc (k j : κ) (y : V) : ∀ kvs : List (κ × V), valV kvs k = none → valV (kvs ++ [(k, y)]) j = if j = k then some y else valV kvs j
  | [], _ => by
    by_cases e : k = j
    · rw [if_pos e.symm]; exact valV_pos (p := (k, y)) e
    · rw [if_neg (fun z => e z.symm)]; exact valV_neg (p := (k, y)) e
  | p :: r, hn => by
    rw [List.cons_append]
    have hk : ¬ p.1 = k := fun z => by rw [valV_pos z] at hn; cases hn
    rw [valV_neg hk] at hn
    have ih := valV_snoc k j y r hn
    by_cases e : p.1 = j
    · rw [valV_pos e, valV_pos e, if_neg (fun z => hk (e.trans z))]
    · rw [valV_neg e, valV_neg e, ih]
theorem valV_put (kvs : List (κ × V)) (k j : κ) (y : V) : valV (putK kvs k y) j = if j = k then some y else valV kvs j := by
  unfold putK
  by_cases a : (kvs.any fun kv => decide (kv.1 = k)) = true
  · rw [if_pos a, valV_map]
    rw [valV_any] at a
    by_cases e : j = k
    · obtain ⟨x, hx⟩ := Option.isSome_iff_exists.mp a
      rw [if_pos e, e, hx, Option.map_some, if_pos rfl]
    · rw [if_neg e]
      cases valV kvs j with
      | none => rfl
      | some x => rw [Option.map_some, if_neg e]
  · rw [if_neg a]
    refine valV_snoc k j y kvs ?_
    rw [valV_any] at a
    cases q : valV kvs k with
    | none => rfl
    | some x => rw [q] at a; exact (a rfl).elim
theorem length_putK (kvs : List (κ × V)) (k : κ) (v : V) : (putK kvs k v).length ≤ kvs.length + 1 := by
  unfold putK
  split
  · rw [List.length_map]; omega
  · rw [List.length_append, List.length_cons, List.length_nil]; omega
theorem RelO.isSome_eq {o : Option V} {u : Option Value} (r : RelO o u) : o.isSome = u.isSome := by
  cases o with
  | none => cases u with
    | none => rfl
    | some _ => exact (show False from r).elim
  | some _ => cases u with
    | none => exact (show False from r).elim
    | some _ => rfl
theorem RelO.getD {o : Option V} {u : Option Value} {d : V} {d' : Value} (r : RelO o u) (rd : RelV d d') : RelV (o.getD d) (u.getD d') := by
  cases o with
  | none => cases u with
    | none => exact rd
    | some _ => exact (show False from r).elim
  | some _ => cases u with
    | none => exact (show False from r).elim
    | some _ => exact r
theorem KV.val {kvs : List (κ × V)} {vs : List (κ × Value)} (r : KV kvs vs) (k : κ) : RelO (valV kvs k) (valueAt vs k) := by
  unfold KV at r
  induction r with
  | nil => exact True.intro
  | @cons p q ps qs h t ih =>
    obtain ⟨h1, h2⟩ := h
    by_cases e : p.1 = k
    · have e' : q.1 = k := h1.symm.trans e
      have b : valueAt (q :: qs) k = some q.2 := by simp [valueAt, List.find?_cons, e']
      rw [valV_pos e, b]; exact h2
    · have e' : ¬ q.1 = k := fun z => e (h1.trans z)
      have b : valueAt (q :: qs) k = valueAt qs k := by simp [valueAt, List.find?_cons, e']
      rw [valV_neg e, b]; exact ih
theorem KV.any {kvs : List (κ × V)} {vs : List (κ × Value)} (r : KV kvs vs) (k : κ) : (kvs.any fun kv => decide (kv.1 = k)) = vs.any fun kv => decide (kv.1 = k) := by
  unfold KV at r
  induction r with
  | nil => rfl
  | cons h t ih => rw [List.any_cons, List.any_cons, ih, h.1]
theorem KV.repl {kvs : List (κ × V)} {vs : List (κ × Value)} (r : KV kvs vs) (k : κ) {y : V} {u : Value} (ry : RelV y u) :
    KV (kvs.map fun kv => if kv.1 = k then (kv.1, y) else kv) (vs.map fun kv => if kv.1 = k then (kv.1, u) else kv) := by
  unfold KV at r ⊢
  induction r with
  | nil => exact .nil
  | @cons p q ps qs h t ih =>
    rw [List.map_cons, List.map_cons]
    refine .cons ?_ ih
    obtain ⟨h1, h2⟩ := h
    by_cases e : p.1 = k
    · rw [if_pos e, if_pos (h1.symm.trans e)]; exact ⟨h1, ry⟩
    · rw [if_neg e, if_neg (fun z => e (h1.trans z))]; exact ⟨h1, h2⟩
theorem KV.put {kvs : List (κ × V)} {vs : List (κ × Value)} (r : KV kvs vs) (k : κ) {y : V} {u : Value} (ry : RelV y u) : KV (putK kvs k y) (stored vs k u) := by
  unfold putK stored
  rw [r.any k]
  by_cases e : (vs.any fun kv => decide (kv.1 = k)) = true
  · rw [if_pos e, if_pos e]; exact r.repl k ry
  · rw [if_neg e, if_neg e]; exact Paired.snoc r ⟨rfl, ry⟩
theorem KV.drop {kvs : List (κ × V)} {vs : List (κ × Value)} (r : KV kvs vs) (k : κ) : KV (dropK kvs k) (without vs k) := by
  unfold KV at r ⊢
  unfold dropK without
  induction r with
  | nil => exact .nil
  | @cons p q ps qs h t ih =>
    obtain ⟨h1, h2⟩ := h
    rw [List.filter_cons, List.filter_cons]
    by_cases e : p.1 = k
    · have a : ¬ decide (p.1 ≠ k) = true := by simp [e]
      have b : ¬ decide (q.1 ≠ k) = true := by simp [h1.symm.trans e]
      rw [if_neg a, if_neg b]; exact ih
    · have e' : ¬ q.1 = k := fun z => e (h1.trans z)
      have a : decide (p.1 ≠ k) = true := by simp [e]
      have b : decide (q.1 ≠ k) = true := by simp [e']
      rw [if_pos a, if_pos b]; exact .cons ⟨h1, h2⟩ ih
theorem KV.length {kvs : List (κ × V)} {vs : List (κ × Value)} (r : KV kvs vs) : kvs.length = vs.length := Paired.length r
end
theorem kV_is {P : Program} {w : World} {k : Key} {u : Value} (r : RelV (kV k) u) : (mixKind P w).is k u = true := by
  cases k with
  | inl i => obtain ⟨t, e⟩ := (show ∃ t, u = Value.int i t from r); subst e; exact mixKind_int P w i t
  | inr x => obtain ⟨t, e⟩ := (show ∃ t, u = Value.str x t from r); subst e; exact mixKind_str P w x t
theorem items_are {P : Program} {w : World} : ∀ {ks : List Key} {us : List Value}, Vals (ks.map kV) us → ItemsAre (mixKind P w) ks us
  | [], _, r => by rw [List.map_nil] at r; cases r; exact .nil
  | k :: ks, _, r => by
    rw [List.map_cons] at r
    cases r with
    | cons h t => exact .cons (kV_is h) (items_are t)
abbrev KT (H : Hp) : List (List Key × V) → List (List Key × Addr × Value) → Prop := Paired fun p q => p.1 = q.1 ∧ H q.2.1 = some (.tup (p.1.map kV)) ∧ RelV p.2 q.2.2
theorem KT.val {H : Hp} {kvs : List (List Key × V)} {xs : List (List Key × Addr × Value)} (r : KT H kvs xs) (k : List Key) : RelO (valV kvs k) ((atKey xs k).map (·.2)) := by
  induction r with
  | nil => exact True.intro
  | @cons p q ps qs h t ih =>
    obtain ⟨h1, _, h2⟩ := h
    by_cases e : p.1 = k
    · have e' : q.1 = k := h1.symm.trans e
      have b : atKey (q :: qs) k = some q.2 := by simp [atKey, List.find?_cons, e']
      rw [valV_pos e, b]; exact h2
    · have e' : ¬ q.1 = k := fun z => e (h1.trans z)
      have b : atKey (q :: qs) k = atKey qs k := by simp [atKey, List.find?_cons, e']
      rw [valV_neg e, b]; exact ih
theorem KT.repl {H : Hp} {kvs : List (List Key × V)} {xs : List (List Key × Addr × Value)} (r : KT H kvs xs) (k : List Key) {y : V} {u : Value} (ry : RelV y u) :
    KT H (kvs.map fun kv => if kv.1 = k then (kv.1, y) else kv) (xs.map (putAt k u)) := by
  induction r with
  | nil => exact .nil
  | @cons p q ps qs h t ih =>
    rw [List.map_cons, List.map_cons]
    refine .cons ?_ ih
    obtain ⟨h1, h2, h3⟩ := h
    unfold putAt
    by_cases e : p.1 = k
    · rw [if_pos e, if_pos (h1.symm.trans e)]; exact ⟨h1, h2, ry⟩
    · rw [if_neg e, if_neg (fun z => e (h1.trans z))]; exact ⟨h1, h2, h3⟩
theorem KT.put {H : Hp} {kvs : List (List Key × V)} {xs : List (List Key × Addr × Value)} (r : KT H kvs xs) (k : List Key) {b : Addr} {y : V} {u : Value} (hb : H b = some (.tup (k.map kV))) (ry : RelV y u) :
    KT H (putK kvs k y) (storedH xs k b u) := by
  have e : (kvs.any fun kv => decide (kv.1 = k)) = (atKey xs k).isSome := by
    rw [valV_any, (r.val k).isSome_eq, Option.isSome_map]
  unfold putK storedH
  rw [e]
  by_cases q : (atKey xs k).isSome = true
  · rw [if_pos q, if_pos q]; exact r.repl k ry
  · rw [if_neg q, if_neg q]; exact Paired.snoc r ⟨rfl, hb, ry⟩
theorem KT.keeps {H H' : Hp} {kvs : List (List Key × V)} {xs : List (List Key × Addr × Value)} (r : KT H kvs xs) (ht : ∀ b ys, H b = some (.tup ys) → H' b = some (.tup ys)) : KT H' kvs xs :=
  Paired.mapP r fun _ _ z => ⟨z.1, ht _ _ z.2.1, z.2.2⟩
section
variable {P : Program} {w : World} {H : Hp} {h : Heap} {a : Addr}
theorem rd_of {u : HO} (ok : HOk P w H h) (e : Rd H a u) : ObjOk P w H h a u := e.ok ok
theorem dk_rd {kvs : List (Key × V)} (ok : HOk P w H h) (e : Rd H a (.dK kvs)) : kvs.length ≤ sizeLine ∧ (a == sysModules) = false ∧ ∃ vs, KV kvs vs ∧ h.DictOf (mixKind P w) a vs :=
  show ObjOk P w H h a (.dK kvs) from rd_of ok e
theorem dk_of {kvs : List (Key × V)} (ok : HOk P w H h) (e : H a = some (.dK kvs)) : kvs.length ≤ sizeLine ∧ (a == sysModules) = false ∧ ∃ vs, KV kvs vs ∧ h.DictOf (mixKind P w) a vs := dk_rd ok (.inl e)
theorem key_of {ks : List Key} (ok : HOk P w H h) (e : H a = some (.tup (ks.map kV))) : (tupleKind (mixKind P w)).is h ks a := by
  obtain ⟨_, its, r, o, h1, h2, n, h3⟩ := (show ObjOk P w H h a (.tup (ks.map kV)) from ok a _ e)
  exact ⟨o, its.toArray, n, h1, h2, h3, by simpa using items_are r⟩
theorem dt_rd {kvs : List (List Key × V)} (ok : HOk P w H h) (e : Rd H a (.dT kvs)) : kvs.length ≤ sizeLine ∧ (a == sysModules) = false ∧
    ∃ xs, KT H kvs xs ∧ h.DictOfH (tupleKind (mixKind P w)) a xs := by
  obtain ⟨z, y, xs, r, o, es, ep, h1, h2, h3, h4, h5⟩ := (show ObjOk P w H h a (.dT kvs) from rd_of ok e)
  refine ⟨z, y, xs, r, o, es, ep, h1, h2, h3, h4, fun x hx => ?_, h5⟩
  have all : ∀ {l : List (List Key × V)} {m : List (List Key × Addr × Value)}, KT H l m → ∀ x ∈ m, (tupleKind (mixKind P w)).is h x.1 x.2.1 := by
    intro l m q
    induction q with
    | nil => intro x hx; exact nomatch hx
    | @cons p q ps qs hq t ih =>
      intro x hx
      rcases List.mem_cons.mp hx with e | hx
      · subst e
        exact key_of ok (by rw [← hq.1]; exact hq.2.1)
      · exact ih x hx
  exact all r x hx
theorem dt_of {kvs : List (List Key × V)} (ok : HOk P w H h) (e : H a = some (.dT kvs)) : kvs.length ≤ sizeLine ∧ (a == sysModules) = false ∧
    ∃ xs, KT H kvs xs ∧ h.DictOfH (tupleKind (mixKind P w)) a xs := dt_rd ok (.inl e)
end
def DGet (H : Hp) (a : Addr) (y : V) (r : Option V) : Prop :=
  (∃ kvs k, Rd H a (.dK kvs) ∧ y = kV k ∧ r = valV kvs k) ∨ ∃ kvs k b, Rd H a (.dT kvs) ∧ y = .ref b ∧ H b = some (.tup (k.map kV)) ∧ r = valV kvs k
def DPut (H : Hp) (a : Addr) (y v : V) (H' : Hp) : Prop :=
  (∃ kvs k, H a = some (.dK kvs) ∧ y = kV k ∧ kvs.length < sizeLine ∧ H' = upd H a (.dK (putK kvs k v))) ∨
  ∃ kvs k b, H a = some (.dT kvs) ∧ y = .ref b ∧ H b = some (.tup (k.map kV)) ∧ kvs.length < sizeLine ∧ H' = upd H a (.dT (putK kvs k v))
theorem DGet.k {H : Hp} {a : Addr} {kvs : List (Key × V)} {k : Key} (e : H a = some (.dK kvs)) : DGet H a (kV k) (valV kvs k) := .inl ⟨kvs, k, .inl e, rfl, rfl⟩
theorem DGet.t {H : Hp} {a b : Addr} {kvs : List (List Key × V)} {k : List Key} (e : H a = some (.dT kvs)) (eb : H b = some (.tup (k.map kV))) : DGet H a (.ref b) (valV kvs k) := .inr ⟨kvs, k, b, .inl e, rfl, eb, rfl⟩
theorem DPut.k {H : Hp} {a : Addr} {kvs : List (Key × V)} {k : Key} {v : V} (e : H a = some (.dK kvs)) (hl : kvs.length < sizeLine) : DPut H a (kV k) v (upd H a (.dK (putK kvs k v))) := .inl ⟨kvs, k, e, rfl, hl, rfl⟩
theorem DPut.t {H : Hp} {a b : Addr} {kvs : List (List Key × V)} {k : List Key} {v : V} (e : H a = some (.dT kvs)) (eb : H b = some (.tup (k.map kV))) (hl : kvs.length < sizeLine) :
    DPut H a (.ref b) v (upd H a (.dT (putK kvs k v))) := .inr ⟨kvs, k, b, e, rfl, eb, hl, rfl⟩
section
variable {X : Cx} {pins : List (Addr × Obj)} {σ : St} {H : Hp} {s : Shared} {a : Addr} {y v : V} {u r : Value} {o : Option V} {A : Around} {E : Value → Shared → Prop}
theorem Inv.big (I : Inv X pins σ H s) : sysModules < s.heap.objs.size := by
  have h : mainGlobals < s.heap.objs.size := (I.mod.glob.keeps I.bk).lt
  exact Nat.lt_trans (by decide) h
theorem d_getItem {Q : Value → Shared → Prop} (hu : A.units + 1 < cLine) (I : Inv X pins σ H s) (g : DGet H a y (some v)) (ry : RelV y u) (h : ∀ w' s', Inv X pins σ H s' → RelV v w' → Q w' s') :
    wpAny (model X.prog X.w) A (getItem (.ref a) u) Q E s := by
  rcases g with ⟨kvs, k, e, ey, l⟩ | ⟨kvs, k, b, e, ey, eb, l⟩
  · subst ey
    obtain ⟨z, hd, vs, rel, dd⟩ := dk_rd I.hok e
    obtain ⟨w', hw, rw'⟩ := RelO.some_of (v := v) (o := valueAt vs k) (by rw [l]; exact rel.val k)
    exact wpAny_getItem_of (kV_is ry) dd.mapOf hw (h w' _ (I.tok _) rw')
  · subst ey
    cases (show u = Value.ref b from ry)
    obtain ⟨z, hd, xs, rel, dd⟩ := dt_rd I.hok e
    obtain ⟨w', hw, rw'⟩ := RelO.some_of (v := v) (o := (atKey xs k).map (·.2)) (by rw [l]; exact rel.val k)
    obtain ⟨p, hp, hp2⟩ := Option.map_eq_some_iff.mp hw
    refine wpAny_getItem_heap (tupleKind_room_in1 hu) (key_of I.hok eb) dd hp ?_
    rw [hp2]
    exact h w' _ (I.tok _) rw'
theorem d_notIn {Q : Value → Shared → Prop} (hu : A.units + 1 < cLine) (I : Inv X pins σ H s) (g : DGet H a y o) (ry : RelV y u) (h : ∀ s', Inv X pins σ H s' → Q (.bool (!o.isSome)) s') :
    wpAny (model X.prog X.w) A (compareOp .NotIn u (.ref a)) Q E s := by
  rcases g with ⟨kvs, k, e, ey, l⟩ | ⟨kvs, k, b, e, ey, eb, l⟩
  · subst ey
    obtain ⟨z, hd, vs, rel, dd⟩ := dk_rd I.hok e
    refine wpAny_notIn_of (kV_is ry) hd dd.mapOf ?_
    rw [← (rel.val k).isSome_eq, ← l]
    exact h _ (I.tok _)
  · subst ey
    cases (show u = Value.ref b from ry)
    obtain ⟨z, hd, xs, rel, dd⟩ := dt_rd I.hok e
    refine wpAny_notIn_heap (tupleKind_room_in1 hu) (key_of I.hok eb) hd dd ?_
    have q := (rel.val k).isSome_eq
    rw [Option.isSome_map] at q
    rw [← q, ← l]
    exact h _ (I.tok _)
theorem d_write {h' : Heap} {t' : Nat} {ob : HO} (I : Inv X pins σ H s) (mu : Mut (H a)) (hs : Heap.SameBut a s.heap h') (he : ∃ q, h'.get? a = some q) (new : ObjOk X.prog X.w (upd H a ob) h' a ob) :
    Inv X pins σ (upd H a ob) { s with heap := h', toks := t' } :=
  I.write (x := a) (e := a) mu (.inl rfl) (fun b q hb z => (hs.2 b hb).trans z) he new
theorem dk_new {P : Program} {w : World} {H' : Hp} {h' : Heap} {kvs : List (Key × V)} {vs : List (Key × Value)} (z : kvs.length ≤ sizeLine) (hd : (a == sysModules) = false) (rel : KV kvs vs) (dd : h'.DictOf (mixKind P w) a vs) :
    ObjOk P w H' h' a (.dK kvs) := ⟨z, hd, vs, rel, dd⟩
theorem d_setItem {H' : Hp} {Q : Unit → Shared → Prop} (hu : A.units + 1 < cLine) (I : Inv X pins σ H s) (g : DPut H a y v H') (ry : RelV y u) (rv : RelV v r) (h : ∀ s', Inv X pins σ H' s' → Q () s') :
    wpAny (model X.prog X.w) A (setItem (.ref a) u r) Q E s := by
  rcases g with ⟨kvs, k, e, ey, l, eH⟩ | ⟨kvs, k, b, e, ey, eb, l, eH⟩
  · subst ey eH
    obtain ⟨z, hd, vs, rel, dd⟩ := dk_of I.hok e
    have hz : vs.length ≤ sizeLine := by rw [← rel.length]; exact z
    have hl : (putK kvs k v).length ≤ sizeLine := by have := length_putK kvs k v; omega
    refine wpAny_setItem_pairs (hsz := hz) (kV_is ry) dd fun h' dd' hs => h _ ?_
    have he : ∃ q, h'.get? a = some q := let ⟨q, _, _, hq, _⟩ := dd'; ⟨q, hq⟩
    exact d_write I (by rw [e]; exact True.intro) hs he (dk_new hl hd (rel.put k rv) dd')
  · subst ey eH
    cases (show u = Value.ref b from ry)
    obtain ⟨z, hd, xs, rel, dd⟩ := dt_of I.hok e
    have hz : xs.length ≤ sizeLine := by rw [← Paired.length rel]; exact z
    have hl : (putK kvs k v).length ≤ sizeLine := by have := length_putK kvs k v; omega
    refine wpAny_setItem_heap (hsz := hz) (tupleKind_room_in1 hu) (key_of I.hok eb) dd fun h' dd' hs => h _ ?_
    obtain ⟨q, es, ep, hq, h2, h3, h4, _, h5⟩ := dd'
    refine d_write I (by rw [e]; exact True.intro) hs ⟨q, hq⟩ ⟨hl, hd, _, (rel.put k eb rv).keeps fun c ys ec => ?_, q, es, ep, hq, h2, h3, h4, h5⟩
    rw [upd_ne (ne_of ec e (fun z => nomatch z))]
    exact ec
end
section
variable {X : Cx} {pins : List (Addr × Obj)} {σ : St} {H : Hp} {s : Shared} {a : Addr} {kvs : List (Key × V)} {k : Key} {u : Value} {A : Around} {E : Value → Shared → Prop}
end
def NoSl (i : Expr) : Prop := ∀ ov iv, subscripted i false ov iv = operate [ov, iv] (getItem ov iv)
theorem subD_of {prog : Program} {w : World} {A : Around} {E : Value → Shared → Prop} {s : Shared} {env : Env} {value slice : Expr} {pos : Pos} {T id : String} {Q : Value → Shared → Prop}
    (hl : typeLookup (.type T) "__getitem__" = pure (some (.builtin id))) (hs : NoSl slice)
    (h : wpAny (model prog w) A (eval value env) (fun o s₁ => wpAny (model prog w) A (eval slice env) (fun i s₂ => s₂.TypeIs o T ∧ wpAny (model prog w) A (getItem o i) Q E s₂) E s₁) E s) :
    wpAny (model prog w) A (eval (.Subscript value slice pos) env) Q E s := by
  refine Subscript_ (wpAny_mono h (fun o s₁ h₁ => wpAny_mono h₁ (fun i s₂ h₂ => ?_) fun _ _ x => x) fun _ _ x => x)
  obtain ⟨hT, h₂⟩ := h₂
  unfold subscriptTail
  refine wpAny_bind ?_
  rw [getitemInPython_of_ne hT.not_modules]
  refine wpAny_bind (wpAny_specialOf hT hl ?_)
  have fin : wpAny (model prog w) A (subscripted slice false o i) (fun r s₃ => wpAny (model prog w) A (letTemporaryGo value o r >>= fun _ => pure r) Q E s₃) E s₂ := by
    rw [hs o i]
    exact wpAny_operating (wpAny_mono h₂ (fun r s₃ h₃ => wpAny_bind (wpAny_letTemporaryGo (wpAny_pure h₃))) fun _ _ x => x)
  first
    | exact wpAny_pure (wpAny_bind fin)
    | exact wpAny_bind (wpAny_pure (wpAny_bind fin))
    | exact wpAny_bind fin
theorem dict_typeIs {X : Cx} {pins : List (Addr × Obj)} {σ : St} {H : Hp} {s : Shared} {a : Addr} {y : V} {o : Option V} (I : Inv X pins σ H s) (g : DGet H a y o) : s.TypeIs (.ref a) "dict" := by
  rcases g with ⟨kvs, k, e, _, _⟩ | ⟨kvs, k, b, e, _, _, _⟩
  · obtain ⟨_, _, vs, _, dd⟩ := dk_rd I.hok e
    exact dd.typeIs
  · obtain ⟨_, _, xs, _, dd⟩ := dt_rd I.hok e
    exact dd.typeIs
def tDGet (td ty : TE) : TE := fun σ H Q => td σ H fun x H1 => ty σ H1 fun y H2 => ∃ a v, x = .ref a ∧ DGet H2 a y (some v) ∧ Q v H2
def tDNotIn (ty td : TE) : TE := fun σ H Q => ty σ H fun y H1 => td σ H1 fun x H2 => ∃ a o, x = .ref a ∧ DGet H2 a y o ∧ Q (.bl (!o.isSome)) H2
def sDPut (td ty tv : TE) : TS := fun D σ H => tv σ H fun v H1 => td σ H1 fun x H2 => ty σ H2 fun y H3 => ∃ a H4, x = .ref a ∧ DPut H3 a y v H4 ∧ D.nx σ H4
section
variable {X : Cx} {o i e value : Expr} {pos pos' tpos : Pos} {td ty tv : TE}
theorem pe_dget (hu : X.A.units + 1 < cLine) (ho : PE X o td) (hi : PE X i ty) (hs : NoSl i) : PE X (.Subscript o i pos) (tDGet td ty) := by
  intro pins s σ H Q I h
  refine subD_of PySem.F.slot_dict_getitem.lookup hs (thn (ho pins s σ H _ I h) fun u s1 ⟨x, H1, I1, rx, q1⟩ => thn (hi pins s1 σ H1 _ I1 q1) fun iv s2 ⟨y, H2, I2, ry, a, v, ex, g, q2⟩ => ?_)
  subst ex
  obtain rfl : u = Value.ref a := rx
  exact ⟨dict_typeIs I2 g, d_getItem hu I2 g ry fun w' s3 I3 rw' => ⟨v, H2, I3, rw', q2⟩⟩
theorem pc_dnotin (hu : X.A.units + 1 < cLine) (hi : PE X i ty) (ho : PE X o td) : PC X .NotIn i o (tDNotIn ty td) := by
  intro pins s σ H Q I h
  refine thn (hi pins s σ H _ I h) fun iv s1 ⟨y, H1, I1, ry, q1⟩ => thn (ho pins s1 σ H1 _ I1 q1) fun u s2 ⟨x, H2, I2, rx, a, ov, ex, g, q2⟩ => ?_
  subst ex
  obtain rfl : u = Value.ref a := rx
  exact d_notIn hu I2 g ry fun s3 I3 => ⟨.bl (!ov.isSome), H2, I3, rfl, q2⟩
theorem ps_dput (hu : X.A.units + 1 < cLine) (ho : PE X o td) (hi : PE X i ty) (hv : PE X value tv) (hs : swapsWith value (some (.Subscript o i pos')) pos.line X.env = pure false) :
    PS X (.Assign [.Subscript o i pos'] value pos) (sDPut td ty tv) := by
  intro pins s σ H D I h
  refine wpAny_Assign_Subscript (thn (hv pins s σ H _ I h) fun r s1 ⟨v, H1, I1, rv, q1⟩ => thn (ho pins s1 σ H1 _ I1 q1) fun u s2 ⟨x, H2, I2, rx, q2⟩ => thn (hi pins s2 σ H2 _ I2 q2) fun iv s3 ⟨y, H3, I3, ry, a, H4, ex, g, q3⟩ => ?_) hs
  subst ex
  obtain rfl : u = Value.ref a := rx
  exact d_setItem hu I3 g ry rv fun s4 I4 => ⟨σ, H4, I4, q3⟩
end
theorem dk_empty {P : Program} {w : World} {H : Hp} (h : Heap) (hb : sysModules < h.objs.size) : ObjOk P w H (h.push { cls := .type "dict", data := .dict #[] }) h.objs.size (.dK []) :=
  ⟨Nat.zero_le _, beq_eq_false_iff_ne.mpr (Ne.symm (Nat.ne_of_lt hb)), [], .nil, Heap.DictOf.new h⟩
section
variable {X : Cx} {pos : Pos}
end
def tPairs : List (TE × TE) → St → Hp → (List (V × V) → Hp → Prop) → Prop
  | [], _, H, Q => Q [] H
  | (tk, tv) :: r, σ, H, Q => tk σ H fun x H1 => tv σ H1 fun y H2 => tPairs r σ H2 fun ps H3 => Q ((x, y) :: ps) H3
abbrev VV : List (V × V) → List (Value × Value) → Prop := Paired fun p q => RelV p.1 q.1 ∧ RelV p.2 q.2
def PPs (X : Cx) (pos : Pos) (keys : List (Option Expr)) (values : List Expr) (trs : List (TE × TE)) : Prop :=
  ∀ (pins : List (Addr × Obj)) (s : Shared) (σ : St) (H : Hp) (Q : List (V × V) → Hp → Prop), Inv X pins σ H s → tPairs trs σ H Q →
    wpAny (model X.prog X.w) X.A (evalPairs (pairTrees keys values X.env pos)) (fun vs s' => ∃ ps H', Inv X pins σ H' s' ∧ VV ps vs ∧ Q ps H') X.xe s
theorem pps_nil {X : Cx} {pos : Pos} : PPs X pos [] [] [] := fun pins s σ H Q I h => pairTrees_nil_walk ⟨[], H, I, .nil, h⟩
theorem pps_cons {X : Cx} {pos : Pos} {k v : Expr} {ks : List (Option Expr)} {vs : List Expr} {tk tv : TE} {trs : List (TE × TE)} (hk : PE X k tk) (hv : PE X v tv) (hr : PPs X pos ks vs trs) :
    PPs X pos (some k :: ks) (v :: vs) ((tk, tv) :: trs) := fun pins s σ H Q I h =>
  pairTrees_cons_walk (thn (hk pins s σ H _ I h) fun u s1 ⟨x, H1, I1, rx, q1⟩ => thn (hv pins s1 σ H1 _ I1 q1) fun w2 s2 ⟨y, H2, I2, ry, q2⟩ =>
    thn (hr pins s2 σ H2 _ I2 q2) fun ws s3 ⟨ps, H3, I3, rel, q3⟩ => ⟨(x, y) :: ps, H3, I3, .cons ⟨rx, ry⟩ rel, q3⟩)
def mergeK (kvs more : List (Key × V)) : List (Key × V) := more.foldl (fun acc kv => putK acc kv.1 kv.2) kvs
theorem KV.merge : ∀ {more : List (Key × V)} {rs : List (Key × Value)} {kvs : List (Key × V)} {vs : List (Key × Value)}, KV more rs → KV kvs vs → KV (mergeK kvs more) (merged vs rs) := by
  intro more rs kvs vs r
  unfold KV at r
  induction r generalizing kvs vs with
  | nil => intro q; exact q
  | @cons p q ps qs h t ih =>
    intro r0
    have e : KV (putK kvs p.1 p.2) (stored vs q.1 q.2) := by
      have := r0.put p.1 h.2
      rw [← h.1]; exact this
    exact ih e
theorem length_mergeK : ∀ (more kvs : List (Key × V)), (mergeK kvs more).length ≤ kvs.length + more.length
  | [], kvs => by show kvs.length ≤ kvs.length + 0; omega
  | p :: r, kvs => by
    have h1 := length_mergeK r (putK kvs p.1 p.2)
    have h2 := length_putK kvs p.1 p.2
    show (mergeK (putK kvs p.1 p.2) r).length ≤ _
    rw [List.length_cons]; omega
theorem carries_of {P : Program} {w : World} : ∀ {kvs : List (Key × V)} {ws : List (Value × Value)}, VV (kvs.map fun kv => (kV kv.1, kv.2)) ws → ∃ rs, Carries (mixKind P w) ws rs ∧ KV kvs rs
  | [], _, r => by rw [List.map_nil] at r; cases r; exact ⟨[], True.intro, .nil⟩
  | p :: kvs, _, r => by
    rw [List.map_cons] at r
    cases r with
    | @cons a b as bs h t =>
      obtain ⟨rs, c, q⟩ := carries_of (P := P) (w := w) t
      obtain ⟨b1, b2⟩ := b
      exact ⟨(p.1, b2) :: rs, ⟨kV_is h.1, rfl, c⟩, .cons ⟨rfl, h.2⟩ q⟩
def tDisp (trs : List (TE × TE)) : TE := fun σ H Q => ∀ p, H p = none → tPairs trs σ (upd H p (.dK [])) fun ps H2 => H2 p = some (.dK []) ∧ ∃ kvs : List (Key × V), ps = kvs.map (fun kv => (kV kv.1, kv.2)) ∧ kvs.length ≤ 15 ∧ Q (.ref p) (upd H2 p (.dK (mergeK [] kvs)))
theorem pe_disp {X : Cx} {pos : Pos} {keys : List (Option Expr)} {values : List Expr} {trs : List (TE × TE)} (h : PPs X pos keys values trs) (hall : keys.all (·.isSome) = true) (hl : keys.length = values.length) (h0 : keys ≠ [])
    (h15 : keys.length ≤ 15) : PE X (.Dict keys values pos) (tDisp trs) := by
  intro pins s σ H Q I q
  have hn := I.hok.fresh (Nat.le_refl s.heap.objs.size)
  have I1 := I.laid (a := s.heap.objs.size) (o := .dK []) (h' := s.heap.push { cls := .type "dict", data := .dict #[] }) (t' := s.toks) (fun _ _ q => Heap.get?_push_of_some _ q) (Nat.le_refl _) (dk_empty s.heap I.big)
  refine wpAny_Dict_walk (knd := mixKind X.prog X.w) hall hl h0 h15 (thn (h pins _ σ _ _ I1 (q _ hn)) fun ws s2 ⟨ps, H2, I2, rel, e, kvs, ep, lk, q2⟩ => ?_)
  subst ep
  obtain ⟨rs, c, rk⟩ := carries_of (P := X.prog) (w := X.w) rel
  obtain ⟨z, hd, vs0, r0, dd⟩ := dk_of I2.hok e
  cases r0
  refine ⟨rs, c, dd, fun h' dd' hs => ⟨.ref s.heap.objs.size, _, ?_, rfl, q2⟩⟩
  have hz : (mergeK [] kvs).length ≤ sizeLine := by
    have h1 := length_mergeK kvs []
    rw [List.length_nil] at h1
    rw [sizeLine_eq]; omega
  have he : ∃ q, h'.get? s.heap.objs.size = some q := let ⟨q, _, _, hq, _⟩ := dd'; ⟨q, hq⟩
  exact d_write I2 (by rw [e]; exact True.intro) hs he (dk_new hz hd (rk.merge .nil) dd')
structure M1 (X : Cx) (o : Expr) (m : Str) (apos : Pos) (e : Expr) (cpos : Pos) : Prop where
  base : attributeBase o m X.env (eval o X.env) = eval o X.env
  few : ((backTo cpos (starEach [e] X.env)).all (fun x => !x.1) && (backToKw cpos (keywordEach [] X.env)).all (fun x => x.1.isSome)
    && decide (([e] : List Expr).length + ([] : List Keyword).length + (if ([] : List Keyword).isEmpty then 0 else 1) < 30)) = true
  line : (apos.endLine == cpos.line) = true
  trees : backTo cpos (starEach [e] X.env) = [(false, eval e X.env)]
structure M2 (X : Cx) (o : Expr) (m : Str) (apos : Pos) (e f : Expr) (cpos : Pos) : Prop where
  base : attributeBase o m X.env (eval o X.env) = eval o X.env
  few : ((backTo cpos (starEach [e, f] X.env)).all (fun x => !x.1) && (backToKw cpos (keywordEach [] X.env)).all (fun x => x.1.isSome)
    && decide (([e, f] : List Expr).length + ([] : List Keyword).length + (if ([] : List Keyword).isEmpty then 0 else 1) < 30)) = true
  line : (apos.endLine == cpos.line) = true
  trees : backTo cpos (starEach [e, f] X.env) = [(false, eval e X.env), (false, eval f X.env)]
def IsDct (H : Hp) (a : Addr) : Prop := (∃ kvs, Rd H a (.dK kvs)) ∨ ∃ kvs, Rd H a (.dT kvs)
theorem isDct_at {X : Cx} {pins : List (Addr × Obj)} {σ : St} {H : Hp} {s : Shared} {a : Addr} (I : Inv X pins σ H s) (d : IsDct H a) :
    s.TypeIs (.ref a) "dict" ∧ (∀ b, Value.ref a = .ref b → ∃ ob, s.heap.get? b = some ob ∧ ob.dict = none) ∧ (a == sysModules) = false := by
  rcases d with ⟨kvs, e⟩ | ⟨kvs, e⟩
  · obtain ⟨_, hd, vs, _, dd⟩ := dk_rd I.hok e
    refine ⟨dd.typeIs, fun b q => ?_, hd⟩
    cases q
    obtain ⟨ob, _, _, h1, h2, _⟩ := dd
    exact ⟨ob, h1, h2.2.1⟩
  · obtain ⟨_, hd, xs, _, dd⟩ := dt_rd I.hok e
    refine ⟨dd.typeIs, fun b q => ?_, hd⟩
    cases q
    obtain ⟨ob, _, _, h1, h2, _⟩ := dd
    exact ⟨ob, h1, h2.2.1⟩
section
variable {X : Cx} {pins : List (Addr × Obj)} {σ : St} {H : Hp} {s : Shared} {a : Addr} {y d : V} {u r : Value} {o : Option V} {A : Around} {E : Value → Shared → Prop}
theorem d_get2 {Q : Value → Shared → Prop} (hu : A.units + 1 < cLine) (I : Inv X pins σ H s) (g : DGet H a y o) (ry : RelV y u) (rd : RelV d r) (h : ∀ w' s', Inv X pins σ H s' → RelV (o.getD d) w' → Q w' s') :
    wpAny (model X.prog X.w) A (call (.builtin "dict.get") [.ref a, u, r]) Q E s := by
  rcases g with ⟨kvs, k, e, ey, l⟩ | ⟨kvs, k, b, e, ey, eb, l⟩
  · subst ey
    obtain ⟨z, hd, vs, rel, dd⟩ := dk_rd I.hok e
    refine call_meetsIn PySem.F.slot_dict_get dd.typeIs PySem.F.entry_dict_get (PySem.F.args_dict_get_3 _ _ _) (meets_dict_get_default (mixKind X.prog X.w) a (kV_is ry) hd r) ⟨_, dd.mapOf, h _ _ (I.tok _) ?_⟩
    rw [l]
    exact (rel.val k).getD rd
  · subst ey
    cases (show u = Value.ref b from ry)
    obtain ⟨z, hd, xs, rel, dd⟩ := dt_rd I.hok e
    refine call_meetsIn PySem.F.slot_dict_get dd.typeIs PySem.F.entry_dict_get (PySem.F.args_dict_get_3 _ _ _) (meetsH_dict_get_default (tupleKind (mixKind X.prog X.w)) a b hd r) ⟨tupleKind_room_in1 hu, k, xs, key_of I.hok eb, dd, h _ _ (I.tok _) ?_⟩
    rw [l]
    exact (rel.val k).getD rd
end
def tDGet2 (td ty tx : TE) : TE := fun σ H Q => td σ H fun x H1 => ∃ a, x = .ref a ∧ IsDct H1 a ∧ ty σ H1 fun y H2 => tx σ H2 fun z H3 => ∃ o, DGet H3 a y o ∧ Q (o.getD z) H3
section
variable {X : Cx} {o e f : Expr} {apos cpos : Pos} {td ty tx : TE}
theorem pe_dget2 (hu : X.A.units + 1 < cLine) (ho : PE X o td) (he : PE X e ty) (hf : PE X f tx) (m : M2 X o "get" apos e f cpos) : PE X (.Call (.Attribute o "get" apos) [e, f] [] cpos) (tDGet2 td ty tx) := by
  intro pins s σ H Q I h
  refine wpAny_Call_method m.base m.few m.line PySem.F.plainAttrs_dict PySem.F.slot_dict_get PySem.F.type_dict_get (thn (ho pins s σ H _ I h) fun u s1 ⟨x, H1, I1, rx, a, ex, d, q1⟩ => ?_)
  subst ex
  obtain rfl : u = Value.ref a := rx
  obtain ⟨t1, t2, _⟩ := isDct_at I1 d
  refine ⟨t1, t2, ?_⟩
  rw [m.trees]
  refine Calls.callWith_builtin rfl (Calls.evalArgs_plain (Calls.spliced_cons (thn (he pins s1 σ H1 _ I1 q1) fun iv s2 ⟨y, H2, I2, ry, q2⟩ =>
    Calls.spliced_cons (thn (hf pins s2 σ H2 _ I2 q2) fun fv s3 ⟨z, H3, I3, rz, ov, g, q3⟩ => Calls.spliced_nil ?_))))
  exact d_get2 hu I3 g ry rz fun w' s4 I4 rw' => ⟨_, H3, I4, rw', q3⟩
end
section
variable {X : Cx} {pins : List (Addr × Obj)} {σ : St} {H : Hp} {s : Shared} {a : Addr} {kvs : List (Key × V)} {A : Around} {E : Value → Shared → Prop}
theorem d_copyOf {Q : Value → Shared → Prop} (I : Inv X pins σ H s) (e : Rd H a (.dK kvs)) (h : ∀ p s', H p = none → Inv X pins σ (upd H p (.dK kvs)) s' → Q (.ref p) s') : wpAny (model X.prog X.w) A (call (.type "dict") [.ref a]) Q E s := by
  obtain ⟨z, hd, vs, rel, dd⟩ := dk_rd I.hok e
  refine kt_call_dict hd dd (by rw [← rel.length]; exact z) fun h' dd' hs => ?_
  refine h _ _ (I.hok.fresh (Nat.le_refl _)) (I.laid (a := s.heap.objs.size) (o := .dK kvs) (t' := s.toks) (fun b q hq => ?_) (Nat.le_refl _) (dk_new z (beq_eq_false_iff_ne.mpr (Ne.symm (Nat.ne_of_lt I.big))) rel dd'))
  exact (hs.2 b (Nat.ne_of_lt (Heap.lt_size hq))).trans (Heap.get?_push_of_some _ hq)
end
section
variable {X : Cx} {pins : List (Addr × Obj)} {σ : St} {H : Hp} {s : Shared} {a : Addr} {y : V} {u : Value} {A : Around} {E : Value → Shared → Prop}
end
end L2
namespace L2
open PySem PySem.Spec PyProof.Rows
section
variable {X : Cx}
end
section
variable {κ : Type} [DecidableEq κ]
theorem valV_not {kvs : List (κ × V)} {k : κ} (h : valV kvs k = none) : ¬ k ∈ kvs.map (·.1) := by
  intro m
  obtain ⟨p, hp, e⟩ := List.mem_map.mp m
  have q : (kvs.any fun kv => decide (kv.1 = k)) = true := List.any_eq_true.mpr ⟨p, hp, decide_eq_true e⟩
  rw [valV_any, h] at q
  exact absurd q (by simp)
end
end L2
namespace L2
open PySem PySem.Spec PyProof.Rows
section
variable {X : Cx} {pins : List (Addr × Obj)} {σ : St} {H : Hp} {s : Shared}
theorem any_range (bs : List Bool) : ((List.range bs.length).any fun i => (bs[i]?).getD true) = bs.any id := by
  rw [Bool.eq_iff_iff, List.any_eq_true, List.any_eq_true]
  constructor
  · rintro ⟨i, hi, h⟩
    have hi' := List.mem_range.mp hi
    rw [List.getElem?_eq_getElem hi'] at h
    exact ⟨bs[i], List.getElem_mem hi', by simpa using h⟩
  · rintro ⟨b, hb, h⟩
    obtain ⟨i, hi⟩ := List.mem_iff_getElem?.mp hb
    exact ⟨i, List.mem_range.mpr (List.getElem?_eq_some_iff.mp hi).1, by rw [hi]; simpa using h⟩
theorem call_anyB (hc : X.calm = true) : CallR X (.builtin "any") (fun xs H Q => ∃ (p : Addr) (bs : List Bool), xs = [.ref p] ∧ SqL X.K H p (bs.map V.bl) ∧ Q (.bl (bs.any id)) H) := by
  intro pins s σ H xs us Q I r h
  obtain ⟨p, bs, rfl, hq, q⟩ := h
  obtain ⟨u, rfl, rx⟩ := vals1 r
  cases rx
  obtain ⟨its, rv, pl, hz⟩ := I.list hq
  have hl := pl.isList
  have hlt : p < s.heap.objs.size := by obtain ⟨_, e, _⟩ := hl; exact Heap.lt_size e
  have hlen : its.toArray.size = bs.length := by rw [List.size_toArray, ← rv.length, List.length_map]
  refine call_any_walk (wpAny_pyIter_list hl ?_)
  refine ⟨s.heap.objs.size, [s.heap.objs.size, p], [s.heap.objs.size], its.toArray.size, _, _, fun i => (bs[i]?).getD true, rfl, Walks.list (A := X.A.in1) (I.ok.hd hc) _ p (Nat.ne_of_lt hlt) its.toArray,
    ⟨⟨_, Heap.get?_push_size _ rfl, rfl, rfl⟩, hl.push _⟩, fun i v s' Q' E' hP hQ => ?_, fun h' tk hk => ?_⟩
  · have e0 : its[i]? = some v := by simpa using hP
    have hi : i < bs.length := by
      have := (List.getElem?_eq_some_iff.mp e0).1
      rw [List.size_toArray] at hlen
      omega
    obtain ⟨v', e1, e2⟩ := rv.get (i := i) (x := V.bl bs[i]) (by rw [List.getElem?_map, List.getElem?_eq_getElem hi]; rfl)
    rw [e0] at e1
    cases e1
    cases e2
    dsimp only at hQ
    rw [List.getElem?_eq_getElem hi] at hQ
    exact wpAny_truthy_bool hQ
  · rw [hlen, any_range]
    refine ⟨.bl _, H, I.kept fun b x e => hk b x (fun hm => ?_) (Heap.get?_push_of_some _ e), rfl, q⟩
    have hb := List.mem_singleton.mp hm
    exact absurd (Heap.lt_size e) (by rw [hb]; exact Nat.lt_irrefl _)
theorem call_lenSet : CallR X (.builtin "len") (fun xs H Q => ∃ (a : Addr) (us : List Key), xs = [.ref a] ∧ H a = some (SetHO X.prog X.w a us) ∧ Q (.int us.length) H) := by
  intro pins s σ H xs us Q I r h
  obtain ⟨a, ks, rfl, hH, q⟩ := h
  obtain ⟨u, rfl, rx⟩ := vals1 r
  cases rx
  obtain ⟨⟨o, ho, S⟩, _⟩ := (show ObjOk X.prog X.w H s.heap a (SetHO X.prog X.w a ks) from I.hok a _ hH)
  obtain ⟨es, ep, t, hd, el, pr, hb, ti, hl⟩ := S.dat
  have e1 : es.size = ks.length := by rw [pr.length, Array.length_toList]
  have hlt : ks.length < 2 ^ 63 := Nat.lt_trans S.len (by decide +kernel)
  refine call_len_set ho S.ex hd ti.fits (by omega) ?_
  rw [e1]
  exact ⟨.int ks.length, H, I.tok _, ⟨_, rfl⟩, q⟩
theorem Inv.freeze {d : Addr} {kvs : List (Key × V)} (I : Inv X pins σ H s) (e : H d = some (.dK kvs)) : ∃ o, s.heap.get? d = some o ∧ Inv X pins σ (upd H d (.frz o (.dK kvs))) s := by
  obtain ⟨z, y, vs, r, o, es, ep, ho, c⟩ := (show ObjOk X.prog X.w H s.heap d (.dK kvs) from I.hok d _ e)
  have ne : ∀ {b : Addr} {u : HO}, H b = some u → (∀ k, u ≠ .dK k) → b ≠ d := fun h n z => by
    rw [z, e] at h
    cases h
    exact n _ rfl
  refine ⟨o, ho, ?_⟩
  refine I.step (g' := s.gens) (d' := s.drawn) (t' := s.toks) (h' := s.heap) (ch := []) (fun _ z => nomatch z) (fun _ _ _ _ _ h _ => h) (fun _ o _ _ _ h _ => ⟨o.slots, h⟩) (fun b _ _ _ n => ?_) (fun _ o _ h => ⟨o, h⟩) (fun b xs h => ?_) (fun b o u h => ?_) (fun b ps h => ⟨#[], ?_⟩) (fun _ h => h) (fun b u h => ?_) I.bare
  · rw [upd_ne (fun z => by rw [z, e] at n; cases n)]; exact n
  · rw [upd_ne (ne h fun _ z => nomatch z)]; exact h
  · rw [upd_ne (ne h fun _ z => nomatch z)]; exact h
  · rw [upd_ne (ne h fun _ z => nomatch z), h]; simp
  · by_cases q : b = d
    · subst q
      rw [upd_same] at h
      cases h
      exact ⟨ho, z, y, vs, r, o, es, ep, ho, c⟩
    · rw [upd_ne q] at h
      refine (I.hok b u h).stay (fun c v hc q => q) (fun c q => ?_) fun c xs q => ?_
      · rw [upd_ne (ne q fun _ z => nomatch z)]; exact q
      · rw [upd_ne (ne q fun _ z => nomatch z)]; exact q
def Itd (d : Addr) (o : Obj) (kvs : List (Key × V)) : It :=
  ⟨fun i H => i < kvs.length ∧ H d = some (.frz o (.dK kvs)), fun i H v H' => H' = H ∧ ∃ k x, kvs[i]? = some (k, x) ∧ v = kV k, fun i H => kvs.length ≤ i ∧ H d = some (.frz o (.dK kvs))⟩
def iDict (te : TE) : TI := fun σ H R => te σ H fun x H1 => ∃ d kvs, x = .ref d ∧ H1 d = some (.dK kvs) ∧ ∀ o, R (Itd d o kvs) (upd H1 d (.frz o (.dK kvs)))
theorem at_of {d : Addr} {o : Obj} {kvs : List (Key × V)} (I : Inv X pins σ H s) (e : H d = some (.frz o (.dK kvs))) : ∃ vs es ep, (d == sysModules) = false ∧ KV kvs vs ∧ o.data = .dict es ep ∧ s.heap.DictAt (mixKind X.prog X.w) d vs ep := by
  obtain ⟨ho, z, y, vs, r, o', es, ep, ho', c⟩ := (show ObjOk X.prog X.w H s.heap d (.frz o (.dK kvs)) from I.hok d _ e)
  rw [ho] at ho'
  cases ho'
  exact ⟨vs, es, ep, y, r, c.2.1, o, es, ho, c⟩
theorem KV.at {κ : Type} : ∀ {kvs : List (κ × V)} {vs : List (κ × Value)} {i : Nat} {k : κ} {x : V}, KV kvs vs → kvs[i]? = some (k, x) → ∃ v, vs[i]? = some (k, v)
  | [], _, i, k, x, _, e => by simp at e
  | a :: kvs, _, 0, k, x, .cons h t, e => by
    rename_i b bs
    simp at e
    subst e
    exact ⟨b.2, by rw [show k = b.1 from h.1]; rfl⟩
  | a :: kvs, _, i + 1, k, x, .cons h t, e => by
    obtain ⟨v, e'⟩ := KV.at (i := i) t (by simpa using e)
    exact ⟨v, by simpa using e'⟩
theorem kV_rel {P : Program} {w : World} {k : Key} {u : Value} (h : (mixKind P w).is k u = true) : RelV (kV k) u := by
  rcases keyIs_shape (show keyIs k u = true from h) with ⟨j, t, rfl, rfl⟩ | ⟨x, t, rfl, rfl⟩
  · exact ⟨t, rfl⟩
  · exact ⟨t, rfl⟩
theorem turn_dict {P : Program} {w : World} {K : PySem.W.Frag} {tg : Expr} (d it : Addr) (o : Obj) (kvs : List (Key × V)) (es : Array DictEntry) (ep : Nat) (ho : o.data = .dict es ep) :
    Turn P w K tg (Itd d o kvs) [it] it (fun i h => h.IsKeyIter it d i kvs.length ep) where
  mem := by simp
  obj := fun i h st b hb => by
    have e : b = it := by simpa using hb
    subst e
    obtain ⟨o, e, c, d⟩ := st
    exact ⟨o, e, fun v z => by rw [d] at z; cases z⟩
  keep := fun i h h' st k => by
    obtain ⟨o, e, c, d⟩ := st
    exact ⟨o, k it (by simp) o e, c, d⟩
  item := by
    intro X hP hw hK hc i pins s σ H E I hf st hg
    subst hP hw hK
    obtain ⟨hi, hd⟩ := hg
    obtain ⟨vs, es', ep', y, r, e', m⟩ := at_of I hd
    rw [ho] at e'
    cases e'
    obtain ⟨f0, f1, f2, f3, f4, f5⟩ := hf it (by simp)
    obtain ⟨v, hv⟩ := KV.at (i := i) (k := kvs[i].1) (x := kvs[i].2) r (List.getElem?_eq_getElem hi)
    have ln := r.length
    refine wpAny_pyNext_dict_item (by rw [← ln]; exact st) m hv fun key h' hk st' sb => ?_
    have I1 : Inv X pins σ H { s with heap := h' } := I.turned (t' := s.toks) (fun b o hb e => (sb.2 b hb).trans e) f0 f1 f3 f4 f5
    obtain ⟨oo, e, c, dd⟩ := id st'
    exact ⟨key, rfl, go_of (s := { s with heap := h' }) e c dd (by decide) ⟨kV kvs[i].1, H, I1, kV_rel hk, ⟨rfl, _, _, List.getElem?_eq_getElem hi, rfl⟩, by rw [ln]; exact st', fun b hb => (hf b hb).1⟩⟩
  done := by
    intro X hP hw hK hc i pins s σ H E I hf st hg
    subst hP hw hK
    obtain ⟨hi, hd⟩ := hg
    obtain ⟨vs, es', ep', y, r, e', m⟩ := at_of I hd
    rw [ho] at e'
    cases e'
    obtain ⟨f0, f1, f2, f3, f4, f5⟩ := hf it (by simp)
    have ln := r.length
    exact wpAny_pyNext_dict_end (I.ok.hd hc) (by rw [← ln]; exact st) m (List.getElem?_eq_none (by omega)) fun h' eb => ⟨rfl, I.turned (t' := s.toks) (fun b o hb e => eb b o hb e) f0 f1 f3 f4 f5⟩
  self := fun _ _ _ _ _ st h => wpAny_pyIter_keyiter st h
theorem pi_dict {tg l : Expr} {tl : TE} (hl : PE X l tl) : PI X tg l (iDict tl) := by
  intro pins s σ H R I h
  refine thn (hl pins s σ H _ I h) fun v s1 ⟨x, H1, I1, r1, q1⟩ => ?_
  obtain ⟨d, kvs, e, hd, q⟩ := q1
  subst e
  cases r1
  obtain ⟨o, ho, I2⟩ := I1.freeze hd
  obtain ⟨vs, es, ep, y, r, e', m⟩ := at_of I2 upd_same
  have ln := r.length
  refine wpAny_pyIter_dict y m ?_
  refine ⟨s1.heap.objs.size, [s1.heap.objs.size], _, _, _, rfl, I2.kept (t' := s1.toks) fun b o e => Heap.get?_push_of_some _ e, turn_dict d _ o kvs es ep e', ⟨_, Heap.get?_push_size _ rfl, rfl, by rw [ln]; rfl⟩, fun b hb => ?_, q o⟩
  have e : b = s1.heap.objs.size := by simpa using hb
  subst e
  exact I2.fpOk (Nat.le_refl _) (I2.hok.fresh (Nat.le_refl _))
theorem for_dict {d : Addr} {o : Obj} {kvs : List (Key × V)} {g : TG} {tb : TS} {D : Ends} {σ : St} {H : Hp} (Pv : Nat → St → Hp → Prop) (h0 : Pv 0 σ H) (hl : ∀ i σ H, i ≤ kvs.length → Pv i σ H → H d = some (.frz o (.dK kvs)))
    (hs : ∀ i k x σ H, kvs[i]? = some (k, x) → Pv i σ H → g (kV k) σ H fun σ2 H2 => tb { D with nx := Pv (i + 1), ct := Pv (i + 1), bk := D.nx } σ2 H2) (hd : ∀ σ H, Pv kvs.length σ H → D.nx σ H) :
    ∃ W : Nat → Nat → St → Hp → Prop, (∃ m, W 0 m σ H) ∧ ∀ i m σ H, W i m σ H →
      ((Itd d o kvs).stop i H ∧ D.nx σ H) ∨ ((Itd d o kvs).go i H ∧ ∃ N : St → Hp → Prop, (∀ σ' H', N σ' H' → ∃ m', m' < m ∧ W (i + 1) m' σ' H') ∧ ∀ x H', (Itd d o kvs).yld i H x H' → g x σ H' fun σ2 H2 => tb { D with nx := N, ct := N, bk := D.nx } σ2 H2) := by
  refine ⟨fun i m σ H => m = kvs.length - i ∧ i ≤ kvs.length ∧ Pv i σ H, ⟨kvs.length, by simp, Nat.zero_le _, h0⟩, ?_⟩
  rintro i m σ H ⟨rfl, hi, p⟩
  have q := hl i σ H hi p
  by_cases hlt : i < kvs.length
  · refine .inr ⟨⟨hlt, q⟩, Pv (i + 1), fun σ' H' p' => ⟨kvs.length - (i + 1), by omega, rfl, hlt, p'⟩, fun x H' y => ?_⟩
    obtain ⟨e, k, z, ek, rfl⟩ := y
    subst e
    exact hs i k z σ _ ek p
  · have e : i = kvs.length := by omega
    subst e
    exact .inl ⟨⟨Nat.le_refl _, q⟩, hd σ H p⟩
theorem op_repL : OpR X (binaryOp .Mult) (fun x y H Q => ∃ (l : Addr) (k : Int) (a : V), x = .ref l ∧ y = .int k ∧ H l = some (.lst [a]) ∧ (k = 0 ∨ k = 1) ∧ ∀ p, H p = none → Q (.ref p) (upd H p (.lst (List.replicate k.toNat a)))) := by
  intro pins s σ H x y v u Q I rx ry h
  obtain ⟨l, k, a, rfl, rfl, hH, hk, q⟩ := h
  cases rx
  obtain ⟨t, rfl⟩ := ry
  obtain ⟨_, its, n, rv, ho⟩ := (show ObjOk X.prog X.w H s.heap l (.lst [a]) from I.hok l _ hH)
  obtain ⟨b, rfl, rb⟩ := rv.one
  refine wpAny_binaryOp_repeat_ref (T := "list") (U := "int") (by decide) ⟨_, ho, rfl⟩ (fun s' => typeIs_int s' k t) noFill_list_mul F.fills_int_mul F.slot_int_rmul repeat_list F.slot_int_index.lookup
    (call_meets F.slot_int_rmul (typeIs_int s k t) F.entry_int_rmul (F.args_int_rmul_2 _ _) (int___rmul___int_list k t l [b].toArray n)
      ⟨ho, rfl, ⟨_, ho, rfl⟩, call_meets F.slot_list_mul ⟨_, ho, rfl⟩ F.entry_list_mul (F.args_list_mul_2 _ _)
        (AutoListH.list___mul___list_int_3 l [b].toArray n k t (by simp [Builtin.List.listFitsIndex]; omega) (by rcases hk with rfl | rfl <;> simp) (by rcases hk with rfl | rfl <;> simp [Builtin.List.listTooLong, sizeLine]))
        ⟨ho, ?_⟩⟩)
  refine ⟨.ref _, _, I.laid (t' := s.toks) (o := .lst (List.replicate k.toNat a)) (fun b u e => Heap.get?_push_of_some _ e) (Nat.le_refl _) ?_, rfl, q _ (I.hok.fresh (Nat.le_refl _))⟩
  rcases hk with rfl | rfl
  · exact ⟨Nat.zero_le _, [], 0, .nil, Heap.get?_push_size _ rfl⟩
  · exact ⟨by show 1 ≤ sizeLine; decide, [b], 0, .cons rb .nil, Heap.get?_push_size _ rfl⟩
theorem call_dictOf : CallR X (.type "dict") (fun xs H Q => ∃ (a : Addr) (kvs : List (Key × V)), xs = [.ref a] ∧ Rd H a (.dK kvs) ∧ ∀ p, H p = none → Q (.ref p) (upd H p (.dK kvs))) := by
  intro pins s σ H xs us Q I r h
  obtain ⟨a, kvs, rfl, e, q⟩ := h
  obtain ⟨u, rfl, rx⟩ := vals1 r
  cases rx
  exact d_copyOf I e fun p s' hp I' => ⟨.ref p, _, I', rfl, q p hp⟩
end
end L2
namespace L2
open PySem PySem.Spec PyProof.Rows
def Fd (r : Nat) (H : Hp) (l : Addr) : Prop := ∃ (a : Addr) (ns : List Int) (b c d : Int), H l = some (.lst [.ref a, .int b, .int c, .int d]) ∧ H a = some (.lst (ns.map V.int)) ∧ 1 ≤ ns.length ∧ ns.length ≤ 64 ∧ 0 ≤ b ∧ 0 ≤ d ∧ d + (r : Int) ≤ 1000000000000
theorem Fd.mono {r r' : Nat} {H : Hp} {l : Addr} (f : Fd r H l) (h : r' ≤ r) : Fd r' H l := by
  obtain ⟨a, ns, b, c, d, e, e2, h1, h2, h3, h4, h5⟩ := f
  exact ⟨a, ns, b, c, d, e, e2, h1, h2, h3, h4, by omega⟩
def cellOf (H : Hp) (l : Addr) : Option V := match H l with
  | some (.lst (x :: _)) => some x
  | _ => none
structure Stp (l : Addr) (r : Nat) (H H' : Hp) : Prop where
  keep : ∀ x o, x ≠ l → H x = some o → H' x = some o
  feed : Fd r H' l
  cell : cellOf H' l = cellOf H l
theorem cellOf_eq {H : Hp} {l : Addr} {x : V} {r : List V} (h : H l = some (.lst (x :: r))) : cellOf H l = some x := by unfold cellOf; rw [h]
theorem cellOf_some {H : Hp} {l : Addr} {x : V} (h : cellOf H l = some x) : ∃ r, H l = some (.lst (x :: r)) := by
  unfold cellOf at h
  split at h
  · rename_i y r e
    cases h
    exact ⟨r, e⟩
  · cases h
theorem fd_ne {l a : Addr} {ns : List Int} {b c d : Int} {H : Hp} (h1 : H l = some (.lst [.ref a, .int b, .int c, .int d])) (h2 : H a = some (.lst (ns.map V.int))) : a ≠ l := fun e => by
  rw [e, h1] at h2
  injection h2 with h2
  injection h2 with h2
  cases ns with
  | nil => cases h2
  | cons n ns => injection h2 with h3 _; cases h3
theorem Stp.refl {l : Addr} {r : Nat} {H : Hp} (f : Fd r H l) : Stp l r H H := ⟨fun _ _ _ h => h, f, rfl⟩
theorem Stp.mono {l : Addr} {r r' : Nat} {H H1 : Hp} (a : Stp l r H H1) (h : r' ≤ r) : Stp l r' H H1 := ⟨a.keep, a.feed.mono h, a.cell⟩
theorem Stp.trans {l : Addr} {r r' : Nat} {H H1 H2 : Hp} (a : Stp l r H H1) (b : Stp l r' H1 H2) : Stp l r' H H2 := ⟨fun x o n h => b.keep x o n (a.keep x o n h), b.feed, b.cell.trans a.cell⟩
theorem Fd.ne {l p : Addr} {r : Nat} {H : Hp} (f : Fd r H l) (h : H p = none) : p ≠ l := fun e => by
  obtain ⟨a, ns, b, c, d, q, _⟩ := f
  rw [e, q] at h
  cases h
theorem Fd.put {l p : Addr} {r : Nat} {H : Hp} {o : HO} (f : Fd r H l) (h : H p = none) : Fd r (upd H p o) l := by
  obtain ⟨a, ns, b, c, d, e, e2, rr⟩ := f
  exact ⟨a, ns, b, c, d, by rw [upd_ne (ne_of_none e h)]; exact e, by rw [upd_ne (ne_of_none e2 h)]; exact e2, rr⟩
theorem Fd.set {l p : Addr} {r : Nat} {H : Hp} {o u : HO} (f : Fd r H l) (h : H p = some u) (n : ∀ xs, u ≠ .lst xs) : Fd r (upd H p o) l := by
  obtain ⟨a, ns, b, c, d, e, e2, rr⟩ := f
  have ne : ∀ {x : Addr} {xs : List V}, H x = some (.lst xs) → x ≠ p := fun e z => by
    rw [z, h] at e
    cases e
    exact n _ rfl
  exact ⟨a, ns, b, c, d, by rw [upd_ne (ne e)]; exact e, by rw [upd_ne (ne e2)]; exact e2, rr⟩
theorem Stp.free {l : Addr} {r : Nat} {H H' : Hp} (a : Stp l r H H') {p : Addr} (h : H' p = none) : H p = none := by
  cases q : H p with
  | none => rfl
  | some o =>
    by_cases e : p = l
    · obtain ⟨_, _, _, _, _, z, _⟩ := a.feed
      rw [e, z] at h
      cases h
    · rw [a.keep p o e q] at h
      cases h
theorem Fd.same {l : Addr} {r : Nat} {H H' : Hp} (f : Fd r H l) (s : Same H H') : Fd r H' l := by
  obtain ⟨a, ns, b, c, d, e, e2, rr⟩ := f
  exact ⟨a, ns, b, c, d, s _ _ e, s _ _ e2, rr⟩
theorem Stp.same {l : Addr} {r : Nat} {H H1 H2 : Hp} (a : Stp l r H H1) (b : Same H1 H2) : Stp l r H H2 := ⟨fun x o n h => b _ _ (a.keep x o n h), a.feed.same b, by
  obtain ⟨c, ns, x, y, z, e, _⟩ := a.feed
  rw [← a.cell, cellOf_eq e, cellOf_eq (b _ _ e)]⟩
theorem Stp.lay {l p : Addr} {r : Nat} {H H' : Hp} {o : HO} (a : Stp l r H H') (h : H' p = none) : Stp l r H (upd H' p o) := a.same (Same.lay h)
theorem Stp.put {l p : Addr} {r : Nat} {H H' : Hp} {o : HO} (a : Stp l r H H') (h : H p = none) (hc : ∀ q r', H l = some (.lst (.ref q :: r')) → p ≠ q) : Stp l r H (upd H' p o) := by
  obtain ⟨c, ns, x, y, z, e, e2, rr⟩ := a.feed
  have ec := a.cell
  rw [cellOf_eq e] at ec
  obtain ⟨r', eH⟩ := cellOf_some ec.symm
  have n1 : l ≠ p := ne_of_none eH h
  have n2 : c ≠ p := (hc c r' eH).symm
  refine ⟨fun x u q e => by rw [upd_ne (ne_of_none e h)]; exact a.keep x u q e, ⟨c, ns, x, y, z, by rw [upd_ne n1]; exact e, by rw [upd_ne n2]; exact e2, rr⟩, ?_⟩
  rw [cellOf_eq (by rw [upd_ne n1]; exact e), ec]
theorem Fd.far {l p : Addr} {r : Nat} {H : Hp} (f : Fd r H l) (h : H p = none) : ∀ q r', H l = some (.lst (.ref q :: r')) → p ≠ q := by
  obtain ⟨c, ns, x, y, z, e, e2, rr⟩ := f
  intro q r' e' z'
  rw [e] at e'
  cases e'
  rw [z', e2] at h
  cases h
theorem Fd.cell {l p : Addr} {r : Nat} {H : Hp} {o : HO} (f : Fd r H l) (n : p ≠ l) (g : ∀ (a : Addr) (ns : List Int) (b c d : Int), H l = some (.lst [.ref a, .int b, .int c, .int d]) → H a = some (.lst (ns.map V.int)) → p ≠ a) : Fd r (upd H p o) l := by
  obtain ⟨a, ns, b, c, d, e, e2, rr⟩ := f
  exact ⟨a, ns, b, c, d, by rw [upd_ne n.symm]; exact e, by rw [upd_ne (g a ns b c d e e2).symm]; exact e2, rr⟩
theorem Stp.up {K : PySem.W.Frag} {l : Addr} {r r' : Nat} {H H' : Hp} (a : Stp l r H H') (f : Fd r' H l) : Up K H H' := fun c xs h => by
  have ne : ∀ o, H c = some o → (∀ ys, o ≠ .lst ys) → c ≠ l := fun o e n q => by
    obtain ⟨_, _, _, _, _, z, _⟩ := f
    rw [q, z] at e
    cases e
    exact n _ rfl
  rcases h with (h | ⟨o, h⟩) | h
  · exact .inl (.inl (a.keep _ _ (ne _ h fun _ z => nomatch z) h))
  · exact .inl (.inr ⟨o, a.keep _ _ (ne _ h fun _ z => nomatch z) h⟩)
  · exact .inr h
theorem Stp.upT {K : PySem.W.Frag} {l : Addr} {r r' : Nat} {H H' : Hp} (a : Stp l r H H') (f : Fd r' H l) : UpT K H H' := by
  obtain ⟨x, ns, y, z, w, e, _⟩ := id f
  refine ⟨a.up f, fun p xs h => ?_, fun p k h => ?_⟩
  · by_cases q : p = l
    · obtain ⟨_, _, _, _, _, e', _⟩ := a.feed
      exact ⟨_, by rw [q]; exact e'⟩
    · exact ⟨xs, a.keep p _ q h⟩
  · refine a.keep p _ (fun q => ?_) h
    rw [q, e] at h
    cases h
end L2
set_option linter.all false
set_option maxRecDepth 100000
namespace ZipT
open PySem
theorem iterK {h h' : Heap} {b i t : Addr} {k : Nat} (st : h.IsTupleIter i t k) (e : Heap.ExtBut b h h') (n : i ≠ b) : h'.IsTupleIter i t k := let ⟨o, ho, r⟩ := st; ⟨o, e _ _ n ho, r⟩
theorem tupK {h h' : Heap} {b t : Addr} {xs : Array Value} (st : h.IsTuple t xs) (e : Heap.ExtBut b h h') (n : t ≠ b) : h'.IsTuple t xs := let ⟨o, ho, r⟩ := st; ⟨o, e _ _ n ho, r⟩
section
variable {prog : Program} {w : World} {A : Around} {E : Value → Shared → Prop} {s : Shared} {z TI TO i1 i2 t1 t2 : Addr} {k : Nat} {xs ys : Array Value} {x y a b : Value}
theorem itemT {Q : Value → Shared → Prop} (D : ZipApart z TI TO i1 i2 t1 t2) (hz : IsZip s.heap z TI TO .none) (hI : IsPair s.heap TI (.ref i1) (.ref i2)) (hO : IsPair s.heap TO a b) (j1 : s.heap.IsTupleIter i1 t1 k) (j2 : s.heap.IsTupleIter i2 t2 k) (p1 : s.heap.IsTuple t1 xs) (p2 : s.heap.IsTuple t2 ys) (hx : xs[k]? = some x) (hy : ys[k]? = some y)
    (q : ∀ h', IsZip h' z TI TO (rawInt s.heap.objs.size) → IsPair h' TO x y → h'.IsTupleIter i1 t1 (k + 1) → h'.IsTupleIter i2 t2 (k + 1) → IsPair h' s.heap.objs.size x y → h'.objs.size = s.heap.objs.size + 1 → (∀ c o, c ≠ z → c ≠ TO → c ≠ i1 → c ≠ i2 → s.heap.get? c = some o → h'.get? c = some o) → Q (.ref s.heap.objs.size) { s with heap := h' }) :
    wpAny (model prog w) A (Builtin.«zip.__next__» ⟨[.ref z], []⟩) (fun fin s' => ∃ v, fin = .done (.ret v) ∧ Q v s') E s := by
  show wpAny _ _ (field (.ref z) 2 >>= _) _ _ _; refine wpAny_bind (wpAny_field hz rfl (x := .bool false) rfl ?_)
  show wpAny _ _ (field (.ref z) 3 >>= _) _ _ _; refine wpAny_bind (wpAny_field hz rfl (x := .ref TI) rfl (wpAny_bind (wpAny_seqItems hI rfl ?_)))
  show wpAny _ _ (Builtin.SmallTypes.ownedTupleIsFree (.ref z) >>= _) _ _ _; refine wpAny_bind ?_; unfold Builtin.SmallTypes.ownedTupleIsFree
  refine wpAny_bind (wpAny_field hz rfl (x := .none) rfl (wpAny_pure ?_)); simp only [if_true]; refine wpAny_bind (wpAny_rule (wpAny_bind (wpAny_field hz rfl (x := .ref TO) rfl ?_)))
  refine wpAny_bind (wpAny_setField_rec hz (by simp) fun g1 hz1 e1 => ?_); replace hz1 : IsZip g1 z TI TO .ellipsis := hz1
  refine wpAny_bind ?_; simp only [List.zipIdx_cons, List.zipIdx_nil, List.forIn_cons, List.forIn_nil]; refine wpAny_bind (wpAny_bind (wpAny_onRaise ?_))
  show wpAny _ _ (Builtin.SmallTypes.nextOf (.ref i1) >>= _) _ _ _; refine wpAny_bind (EnuT.nextT (iterK j1 e1.extBut D.i1z) (tupK p1 e1.extBut D.l1z) hx fun g2 j12 e2 => wpAny_pure ?_)
  have hO2 : IsPair g2 TO a b := e2.extBut _ _ D.TOi1 (e1.extBut _ _ D.TOz hO)
  refine wpAny_bind (wpAny_seqItems hO2 rfl (wpAny_bind (wpAny_updateSeq_pair hO2 fun g3 hO3 e3 => ?_))); replace hO3 : IsPair g3 TO x b := hO3
  refine wpAny_bind (wpAny_letGo (wpAny_pure (wpAny_bind (wpAny_bind (wpAny_onRaise ?_)))))
  show wpAny _ _ (Builtin.SmallTypes.nextOf (.ref i2) >>= _) _ _ _
  refine wpAny_bind (EnuT.nextT (iterK (iterK (iterK j2 e1.extBut D.i2z) e2.extBut D.i12.symm) e3.extBut D.TOi2.symm) (tupK (tupK (tupK p2 e1.extBut D.l2z) e2.extBut D.l2i1) e3.extBut D.l2TO) hy fun g4 j24 e4 => wpAny_pure ?_)
  have hO4 : IsPair g4 TO x b := e4.extBut _ _ D.TOi2 hO3
  refine wpAny_bind (wpAny_seqItems hO4 rfl (wpAny_bind (wpAny_updateSeq_pair hO4 fun g5 hO5 e5 => ?_))); replace hO5 : IsPair g5 TO x y := hO5
  refine wpAny_bind (wpAny_letGo (wpAny_pure (wpAny_pure (wpAny_bind (wpAny_seqItems hO5 rfl (wpAny_bind (wpAny_newTuple ?_)))))))
  have sz : g5.objs.size = s.heap.objs.size := by rw [e5.1, e4.1, e3.1, e2.1, e1.1]
  have hz5 : IsZip g5 z TI TO .ellipsis := e5.extBut _ _ D.TOz.symm (e4.extBut _ _ D.i2z.symm (e3.extBut _ _ D.TOz.symm (e2.extBut _ _ D.i1z.symm hz1)))
  have kp : ∀ c o, c ≠ z → c ≠ TO → c ≠ i1 → c ≠ i2 → s.heap.get? c = some o → g5.get? c = some o := fun c o c1 c2 c3 c4 e => e5.extBut _ _ c2 (e4.extBut _ _ c4 (e3.extBut _ _ c2 (e2.extBut _ _ c3 (e1.extBut _ _ c1 e))))
  have j15 : g5.IsTupleIter i1 t1 (k + 1) := iterK (iterK (iterK j12 e3.extBut D.TOi1.symm) e4.extBut D.i12) e5.extBut D.TOi1.symm
  have j25 : g5.IsTupleIter i2 t2 (k + 1) := iterK j24 e5.extBut D.TOi2.symm
  have zl : z < g5.objs.size := Heap.lt_size hz5
  show wpAny _ _ (Builtin.SmallTypes.ownedTupleHandOut (.ref z) (.ref g5.objs.size) >>= _) _ _ _; refine wpAny_bind ?_; unfold Builtin.SmallTypes.ownedTupleHandOut
  have hz6 : IsZip (g5.push { cls := .type "tuple", data := .seq #[x, y] }) z TI TO .ellipsis := Heap.get?_push_of_some _ hz5
  refine wpAny_bind (wpAny_setField_rec hz6 (by simp) fun g7 hz7 e7 => ?_); replace hz7 : IsZip g7 z TI TO (rawInt g5.objs.size) := hz7
  refine wpAny_setField_rec hz7 (by simp) fun g8 hz8 e8 => ?_; replace hz8 : IsZip g8 z TI TO (rawInt g5.objs.size) := hz8
  have up : ∀ c o, c ≠ z → g5.get? c = some o → g8.get? c = some o := fun c o c1 e => e8.extBut _ _ c1 (e7.extBut _ _ c1 (Heap.get?_push_of_some _ e))
  have hT8 : IsPair g8 g5.objs.size x y := e8.extBut _ _ (Nat.ne_of_gt zl) (e7.extBut _ _ (Nat.ne_of_gt zl) (Heap.get?_push_size _ rfl))
  have sz8 : g8.objs.size = g5.objs.size + 1 := by rw [e8.1, e7.1, Heap.size_push]
  rw [sz] at hz8 hT8 sz8; refine wpAny_pure ⟨_, rfl, ?_⟩; show Q (.ref g5.objs.size) _; rw [sz]
  exact q g8 hz8 (up _ _ D.TOz hO5) (let ⟨o, ho, r⟩ := j15; ⟨o, up _ _ D.i1z ho, r⟩) (let ⟨o, ho, r⟩ := j25; ⟨o, up _ _ D.i2z ho, r⟩) hT8 sz8 fun c o c1 c2 c3 c4 e => up c o c1 (kp c o c1 c2 c3 c4 e)
theorem endT {Q : Fin → Shared → Prop} (hh : A.handled = none) (D : ZipApart z TI TO i1 i2 t1 t2) (hz : IsZip s.heap z TI TO .none) (hI : IsPair s.heap TI (.ref i1) (.ref i2)) (hO : IsPair s.heap TO a b) (j1 : s.heap.IsTupleIter i1 t1 k) (j2 : s.heap.IsTupleIter i2 t2 k) (p1 : s.heap.IsTuple t1 xs) (p2 : s.heap.IsTuple t2 ys) (hend : xs[k]? = none ∨ ys[k]? = none)
    (q : ∀ h' e, (∀ c o, c ≠ z → c ≠ TO → c ≠ i1 → c ≠ i2 → s.heap.get? c = some o → h'.get? c = some o) → (∃ o, h'.get? e = some o ∧ o.cls = .type "StopIteration") → E (.ref e) { s with heap := h' }) :
    wpAny (model prog w) A (Builtin.«zip.__next__» ⟨[.ref z], []⟩) Q E s := by
  show wpAny _ _ (field (.ref z) 2 >>= _) _ _ _; refine wpAny_bind (wpAny_field hz rfl (x := .bool false) rfl ?_)
  show wpAny _ _ (field (.ref z) 3 >>= _) _ _ _; refine wpAny_bind (wpAny_field hz rfl (x := .ref TI) rfl (wpAny_bind (wpAny_seqItems hI rfl ?_)))
  show wpAny _ _ (Builtin.SmallTypes.ownedTupleIsFree (.ref z) >>= _) _ _ _; refine wpAny_bind ?_; unfold Builtin.SmallTypes.ownedTupleIsFree
  refine wpAny_bind (wpAny_field hz rfl (x := .none) rfl (wpAny_pure ?_)); simp only [if_true]; refine wpAny_bind (wpAny_rule (wpAny_bind (wpAny_field hz rfl (x := .ref TO) rfl ?_)))
  refine wpAny_bind (wpAny_setField_rec hz (by simp) fun g1 hz1 e1 => ?_); replace hz1 : IsZip g1 z TI TO .ellipsis := hz1
  refine wpAny_bind ?_; simp only [List.zipIdx_cons, List.zipIdx_nil, List.forIn_cons, List.forIn_nil]; refine wpAny_bind (wpAny_bind (wpAny_onRaise ?_))
  show wpAny _ _ (Builtin.SmallTypes.nextOf (.ref i1) >>= _) _ _ _
  cases hx : xs[k]? with
  | none =>
    refine wpAny_bind (EnuT.endT hh (iterK j1 e1.extBut D.i1z) (tupK p1 e1.extBut D.l1z) hx fun g2 e e2 he => ?_); obtain ⟨oe, hoe, hce⟩ := he
    have hz2 : IsZip g2 z TI TO .ellipsis := e2 _ _ D.i1z.symm hz1
    have ez : e ≠ z := fun v => by subst v; rw [hz2] at hoe; cases hoe; simp at hce
    exact wpAny_setField_rec hz2 (by simp) fun g3 _ e3 => q g3 e (fun c o c1 _ c3 _ v => e3.extBut _ _ c1 (e2 _ _ c3 (e1.extBut _ _ c1 v))) ⟨oe, e3.extBut _ _ ez hoe, hce⟩
  | some x =>
    have hy : ys[k]? = none := by rcases hend with h | h; rw [hx] at h; cases h; exact h
    refine wpAny_bind (EnuT.nextT (iterK j1 e1.extBut D.i1z) (tupK p1 e1.extBut D.l1z) hx fun g2 j12 e2 => wpAny_pure ?_)
    have hO2 : IsPair g2 TO a b := e2.extBut _ _ D.TOi1 (e1.extBut _ _ D.TOz hO)
    refine wpAny_bind (wpAny_seqItems hO2 rfl (wpAny_bind (wpAny_updateSeq_pair hO2 fun g3 hO3 e3 => ?_)))
    refine wpAny_bind (wpAny_letGo (wpAny_pure (wpAny_bind (wpAny_bind (wpAny_onRaise ?_)))))
    show wpAny _ _ (Builtin.SmallTypes.nextOf (.ref i2) >>= _) _ _ _
    refine wpAny_bind (EnuT.endT hh (iterK (iterK (iterK j2 e1.extBut D.i2z) e2.extBut D.i12.symm) e3.extBut D.TOi2.symm) (tupK (tupK (tupK p2 e1.extBut D.l2z) e2.extBut D.l2i1) e3.extBut D.l2TO) hy fun g4 e e4 he => ?_)
    obtain ⟨oe, hoe, hce⟩ := he
    have hz4 : IsZip g4 z TI TO .ellipsis := e4 _ _ D.i2z.symm (e3.extBut _ _ D.TOz.symm (e2.extBut _ _ D.i1z.symm hz1))
    have ez : e ≠ z := fun v => by subst v; rw [hz4] at hoe; cases hoe; simp at hce
    exact wpAny_setField_rec hz4 (by simp) fun g5 _ e5 => q g5 e (fun c o c1 c2 c3 c4 v => e5.extBut _ _ c1 (e4 _ _ c4 (e3.extBut _ _ c2 (e2.extBut _ _ c3 (e1.extBut _ _ c1 v))))) ⟨oe, e5.extBut _ _ ez hoe, hce⟩
theorem nextItem {Q : Option Value → Shared → Prop} (D : ZipApart z TI TO i1 i2 t1 t2) (hz : IsZip s.heap z TI TO .none) (hI : IsPair s.heap TI (.ref i1) (.ref i2)) (hO : IsPair s.heap TO a b) (j1 : s.heap.IsTupleIter i1 t1 k) (j2 : s.heap.IsTupleIter i2 t2 k) (p1 : s.heap.IsTuple t1 xs) (p2 : s.heap.IsTuple t2 ys) (hx : xs[k]? = some x) (hy : ys[k]? = some y)
    (q : ∀ h', IsZip h' z TI TO (rawInt s.heap.objs.size) → IsPair h' TO x y → h'.IsTupleIter i1 t1 (k + 1) → h'.IsTupleIter i2 t2 (k + 1) → IsPair h' s.heap.objs.size x y → h'.objs.size = s.heap.objs.size + 1 → (∀ c o, c ≠ z → c ≠ TO → c ≠ i1 → c ≠ i2 → s.heap.get? c = some o → h'.get? c = some o) → Q (some (.ref s.heap.objs.size)) { s with heap := h' }) :
    wpAny (model prog w) A (pyNext (.ref z)) Q E s := by
  have T : s.TypeIs (.ref z) "zip" := ⟨_, hz, rfl⟩
  unfold pyNext
  exact wpAny_bind (wpAny_attempt (wpAny_callSpecial?_slot (name := Str.ofString "__next__") T F.slot_zip_next (wpAny_call_entry F.slot_zip_next T F.entry_zip_next (itemT D hz hI hO j1 j2 p1 p2 hx hy fun h' a1 a2 a3 a4 a5 a6 a7 => wpAny_pure (q h' a1 a2 a3 a4 a5 a6 a7)) (F.args_zip_next_1 _))))
theorem nextEnd {Q : Option Value → Shared → Prop} (hh : A.handled = none) (D : ZipApart z TI TO i1 i2 t1 t2) (hz : IsZip s.heap z TI TO .none) (hI : IsPair s.heap TI (.ref i1) (.ref i2)) (hO : IsPair s.heap TO a b) (j1 : s.heap.IsTupleIter i1 t1 k) (j2 : s.heap.IsTupleIter i2 t2 k) (p1 : s.heap.IsTuple t1 xs) (p2 : s.heap.IsTuple t2 ys) (hend : xs[k]? = none ∨ ys[k]? = none)
    (q : ∀ h', (∀ c o, c ≠ z → c ≠ TO → c ≠ i1 → c ≠ i2 → s.heap.get? c = some o → h'.get? c = some o) → Q none { s with heap := h' }) : wpAny (model prog w) A (pyNext (.ref z)) Q E s := by
  have T : s.TypeIs (.ref z) "zip" := ⟨_, hz, rfl⟩
  unfold pyNext
  refine wpAny_bind (wpAny_attempt (wpAny_callSpecial?_slot (name := Str.ofString "__next__") T F.slot_zip_next (wpAny_call_entry F.slot_zip_next T F.entry_zip_next (endT hh D hz hI hO j1 j2 p1 p2 hend fun h' e hk he => ?_) (F.args_zip_next_1 _))))
  obtain ⟨o, ho, hc⟩ := he
  exact wpAny_bind (wpAny_isInstance (T := "StopIteration") (b := true) ⟨o, ho, hc⟩ isSubtype_stop (wpAny_pure (q _ hk)))
end
end ZipT
set_option Elab.async false
set_option linter.all false
set_option maxRecDepth 100000
namespace ZipT
open PySem
abbrev H1 (h : Heap) (l1 : Addr) : Heap := h.push { cls := .type "tuple_iterator", data := .fields #[.ref l1, .int 0 0] }
abbrev H2 (h : Heap) (l1 l2 : Addr) : Heap := (H1 h l1).push { cls := .type "tuple_iterator", data := .fields #[.ref l2, .int 0 0] }
abbrev H3 (h : Heap) (l1 l2 : Addr) : Heap := (H2 h l1 l2).push { cls := .type "tuple", data := .seq #[.ref h.objs.size, .ref (H1 h l1).objs.size] }
abbrev H4 (h : Heap) (l1 l2 : Addr) : Heap := (H3 h l1 l2).push { cls := .type "tuple", data := .seq #[.none, .none] }
abbrev H5 (h : Heap) (l1 l2 : Addr) : Heap := (H4 h l1 l2).push { cls := .type "zip", data := .fields #[.none, .bool false, .bool false, .ref (H2 h l1 l2).objs.size, .ref (H3 h l1 l2).objs.size] }
theorem meets (l1 l2 : Addr) (xs ys : Array Value) :
    Meets (Builtin.«zip.__new__» ⟨[.type "zip", .ref l1, .ref l2], []⟩) (fun _ R s => s.heap.IsTuple l1 xs ∧ s.heap.IsTuple l2 ys ∧
      R (.ok (.ret (.ref (H4 s.heap l1 l2).objs.size))) { s with heap := H5 s.heap l1 l2 }) :=
  .of_wp fun prog w A R s h => by
    obtain ⟨hp, g, d, tk, os⟩ := s; obtain ⟨hl1, hl2, h⟩ := h
    have hsub := sub_zip
    have hL1 : Heap.IsTuple (Shared.heap ⟨hp, g, d, tk, os⟩) l1 xs := hl1
    have hL2 : Heap.IsTuple (Shared.heap ⟨hp.push { cls := .type "tuple_iterator", data := .fields #[.ref l1, .int 0 0] }, g, d, tk, os⟩) l2 ys := let ⟨o, ho, r⟩ := hl2; ⟨o, Heap.get?_push_of_some _ ho, r⟩
    wp_walk using wpAny_pyIter_tuple hL1, wpAny_pyIter_tuple hL2
    exact ⟨_, rfl, h⟩
theorem call2 {prog : Program} {w : World} {A : Around} {E : Value → Shared → Prop} {s : Shared} {l1 l2 : Addr} {xs ys : Array Value} {Q : Value → Shared → Prop} (hl1 : s.heap.IsTuple l1 xs) (hl2 : s.heap.IsTuple l2 ys)
    (h : ∀ h', IsZip h' (s.heap.objs.size + 4) (s.heap.objs.size + 2) (s.heap.objs.size + 3) .none → IsPair h' (s.heap.objs.size + 2) (.ref s.heap.objs.size) (.ref (s.heap.objs.size + 1)) →
      IsPair h' (s.heap.objs.size + 3) .none .none → h'.IsTupleIter s.heap.objs.size l1 0 → h'.IsTupleIter (s.heap.objs.size + 1) l2 0 → h'.objs.size = s.heap.objs.size + 5 →
      (∀ c o, s.heap.get? c = some o → h'.get? c = some o) → Q (.ref (s.heap.objs.size + 4)) { s with heap := h' }) :
    wpAny (model prog w) A (call (.type "zip") [.ref l1, .ref l2]) Q E s := by
  refine callType_new F.called_zip (by decide) (F.typeCall_zip_2 _ _) (F.newCall_zip_2 _ _) (fun obj => F.args_object_init_3 obj _ _) F.entry_zip_new (meets l1 l2 xs ys) ⟨hl1, hl2, ?_⟩
  have z1 : (H1 s.heap l1).objs.size = s.heap.objs.size + 1 := Heap.size_push ..
  have z2 : (H2 s.heap l1 l2).objs.size = s.heap.objs.size + 2 := by rw [Heap.size_push, z1]
  have z3 : (H3 s.heap l1 l2).objs.size = s.heap.objs.size + 3 := by rw [Heap.size_push, z2]
  have z4 : (H4 s.heap l1 l2).objs.size = s.heap.objs.size + 4 := by rw [Heap.size_push, z3]
  have z5 : (H5 s.heap l1 l2).objs.size = s.heap.objs.size + 5 := by rw [Heap.size_push, z4]
  have g5 : (H5 s.heap l1 l2).get? (H4 s.heap l1 l2).objs.size = some _ := Heap.get?_push_size _ rfl
  have g4 : (H5 s.heap l1 l2).get? (H3 s.heap l1 l2).objs.size = some _ := Heap.get?_push_of_some _ (Heap.get?_push_size _ rfl)
  have g3 : (H5 s.heap l1 l2).get? (H2 s.heap l1 l2).objs.size = some _ := Heap.get?_push_of_some _ (Heap.get?_push_of_some _ (Heap.get?_push_size _ rfl))
  have g2 : (H5 s.heap l1 l2).get? (H1 s.heap l1).objs.size = some _ := Heap.get?_push_of_some _ (Heap.get?_push_of_some _ (Heap.get?_push_of_some _ (Heap.get?_push_size _ rfl)))
  have g1 : (H5 s.heap l1 l2).get? s.heap.objs.size = some _ := Heap.get?_push_of_some _ (Heap.get?_push_of_some _ (Heap.get?_push_of_some _ (Heap.get?_push_of_some _ (Heap.get?_push_size _ rfl))))
  show _ ∧ _
  rw [z2, z3, z4] at g5
  rw [z1, z2] at g3
  rw [z3] at g4
  rw [z1] at g2
  rw [z4]
  exact ⟨⟨_, g5, rfl⟩, h _ g5 g3 g4 ⟨_, g1, rfl, rfl⟩ ⟨_, g2, rfl, rfl⟩ z5 fun c o x =>
    Heap.get?_push_of_some _ (Heap.get?_push_of_some _ (Heap.get?_push_of_some _ (Heap.get?_push_of_some _ (Heap.get?_push_of_some _ x))))⟩
end ZipT
namespace L2
open PySem PySem.Spec PyProof.Rows
def Itzt (K : PySem.W.Frag) (l1 l2 : Addr) : It :=
  ⟨fun i H => ∃ xs ys x y, SqT K H l1 xs ∧ SqT K H l2 ys ∧ xs[i]? = some x ∧ ys[i]? = some y,
   fun i H v H' => ∃ p x y, v = .ref p ∧ H p = none ∧ H' = upd H p (.tup [x, y]) ∧ (∀ xs, SqT K H l1 xs → xs[i]? = some x) ∧ ∀ ys, SqT K H l2 ys → ys[i]? = some y,
   fun i H => ∃ xs ys, SqT K H l1 xs ∧ SqT K H l2 ys ∧ (xs.length ≤ i ∨ ys.length ≤ i)⟩
theorem turn_zipT {P : Program} {w : World} {K : PySem.W.Frag} {es : List Expr} {k : Nat} {pos : Pos} (z TI TO i1 i2 l1 l2 : Addr) (D : ZipApart z TI TO i1 i2 l1 l2) :
    Turn P w K (.Tuple es k pos) (Itzt K l1 l2) [z, TI, TO, i1, i2] z (fun i h => IsZip h z TI TO .none ∧ IsPair h TI (.ref i1) (.ref i2) ∧ (∃ a b, IsPair h TO a b) ∧ h.IsTupleIter i1 l1 i ∧ h.IsTupleIter i2 l2 i) where
  mem := by simp
  obj := fun i h st b hb => by
    obtain ⟨hz, hTI, ⟨a, c, hTO⟩, ⟨o1, e1, _, d1⟩, ⟨o2, e2, _, d2⟩⟩ := st
    simp only [List.mem_cons, List.not_mem_nil, or_false] at hb
    rcases hb with rfl | rfl | rfl | rfl | rfl
    · exact ⟨_, hz, fun v q => nomatch q⟩
    · exact ⟨_, hTI, fun v q => nomatch q⟩
    · exact ⟨_, hTO, fun v q => nomatch q⟩
    · exact ⟨_, e1, fun v q => by rw [d1] at q; cases q⟩
    · exact ⟨_, e2, fun v q => by rw [d2] at q; cases q⟩
  keep := fun i h h' st hk => by
    obtain ⟨hz, hTI, ⟨a, b, hTO⟩, h1, h2⟩ := st
    exact ⟨hk z (by simp) _ hz, hk TI (by simp) _ hTI, ⟨a, b, hk TO (by simp) _ hTO⟩, (let ⟨o, ho, r⟩ := h1; ⟨o, hk i1 (by simp) o ho, r⟩), (let ⟨o, ho, r⟩ := h2; ⟨o, hk i2 (by simp) o ho, r⟩)⟩
  item := by
    intro X hP hw hK hc i pins s σ H E I hf st hg
    subst hP hw hK
    obtain ⟨xs, ys, x, y, q1, q2, g1, g2⟩ := hg
    obtain ⟨hz, hTI, ⟨a, b, hTO⟩, h1, h2⟩ := st
    obtain ⟨is1, v1, pl1, z1⟩ := I.tuple q1
    obtain ⟨is2, v2, pl2, z2⟩ := I.tuple q2
    obtain ⟨u1, e1, r1⟩ := v1.get g1
    obtain ⟨u2, e2, r2⟩ := v2.get g2
    refine ZipT.nextItem D hz hTI hTO h1 h2 (show s.heap.IsTuple l1 is1.toArray from pl1) (show s.heap.IsTuple l2 is2.toArray from pl2) (x := u1) (y := u2) (by simpa using e1) (by simpa using e2) fun h' a1 a2 a3 a4 a5 a6 hk => ?_
    refine ⟨_, rfl, wpAny_letOwnedTupleGo_zip (s := { s with heap := h' }) a1 fun h'' hz' hs' => ?_⟩
    have lt : ∀ {c o}, s.heap.get? c = some o → s.heap.objs.size ≠ c := fun e => Nat.ne_of_gt (Heap.lt_size e)
    have nz : s.heap.objs.size ≠ z := lt hz
    have kk : ∀ c u, c ∉ [z, TI, TO, i1, i2] → s.heap.get? c = some u → h''.get? c = some u := fun c u m e => by
      simp only [List.mem_cons, List.not_mem_nil, or_false, not_or] at m
      exact hs'.extBut _ _ m.1 (hk c u m.1 m.2.2.1 m.2.2.2.1 m.2.2.2.2 e)
    have fresh := I.hok.fresh (Nat.le_refl s.heap.objs.size)
    have J : Inv X pins σ (upd H s.heap.objs.size (.tup [x, y])) { s with heap := h'', toks := s.toks } := I.turnLay kk hf (Nat.le_refl _) ⟨by show 2 ≤ sizeLine; decide, [u1, u2], .cons r1 (.cons r2 .nil), ⟨_, hs'.extBut _ _ nz a5, rfl, _, rfl⟩⟩
    refine ⟨.ref s.heap.objs.size, _, J, rfl, ⟨_, x, y, rfl, fresh, rfl, fun ws hw => by rw [I.tuple_inj hw q1]; exact g1, fun ws hw => by rw [I.tuple_inj hw q2]; exact g2⟩, ⟨hz', hs'.extBut _ _ D.TIz (hk _ _ D.TIz D.TITO D.TIi1 D.TIi2 hTI), ⟨_, _, hs'.extBut _ _ D.TOz a2⟩, ZipT.iterK a3 hs'.extBut D.i1z, ZipT.iterK a4 hs'.extBut D.i2z⟩, fun c hc => ?_⟩
    have nc : c ≠ s.heap.objs.size := fun q => by
      subst q
      simp only [List.mem_cons, List.not_mem_nil, or_false] at hc
      rcases hc with q | q | q | q | q
      · exact lt hz q
      · exact lt hTI q
      · exact lt hTO q
      · obtain ⟨_, e, _⟩ := h1; exact lt e q
      · obtain ⟨_, e, _⟩ := h2; exact lt e q
    rw [upd_ne nc]
    exact (hf c hc).1
  done := by
    intro X hP hw hK hc i pins s σ H E I hf st hg
    subst hP hw hK
    obtain ⟨xs, ys, q1, q2, g⟩ := hg
    obtain ⟨hz, hTI, ⟨a, b, hTO⟩, h1, h2⟩ := st
    obtain ⟨is1, v1, pl1, z1⟩ := I.tuple q1
    obtain ⟨is2, v2, pl2, z2⟩ := I.tuple q2
    have hl1 := v1.length
    have hl2 := v2.length
    refine ZipT.nextEnd (I.ok.hd hc) D hz hTI hTO h1 h2 (show s.heap.IsTuple l1 is1.toArray from pl1) (show s.heap.IsTuple l2 is2.toArray from pl2) (by rcases g with g | g; exact .inl (by simp; omega); exact .inr (by simp; omega)) fun h' hk => ⟨rfl, I.turnL (t' := s.toks) (fp := [z, TI, TO, i1, i2]) (fun c u m e => ?_) hf⟩
    simp only [List.mem_cons, List.not_mem_nil, or_false, not_or] at m
    exact hk c u m.1 m.2.2.1 m.2.2.2.1 m.2.2.2.2 e
  self := fun A i s Q E st h => wpAny_pyIter_zip st.1 h
def iZipT (K : PySem.W.Frag) (t : TA) : TI := fun σ H R => t σ H fun vs H1 => ∃ p q, vs = [.ref p, .ref q] ∧ (∃ xs, SqT K H1 p xs) ∧ (∃ ys, SqT K H1 q ys) ∧ R (Itzt K p q) H1
section
variable {X : Cx} {es : List Expr} {k : Nat} {p2 pos pos2 : Pos} {a b : Expr} {t : TA}
theorem pi_zipT (hgz : Gl X "zip") (hmz : X.mg "zip" = none) (ha : PA X [a, b] t)
    (he2 : starEach [a, b] X.env = (false, eval a X.env) :: starEach [b] X.env := by rfl) (hpl : (backTo pos2 (starEach [b] X.env)).any (·.1) = false := by rfl) :
    PI X (.Tuple es k pos) (.Call (.Name "zip" p2) [a, b] [] pos2) (iZipT X.K t) := by
  intro pins s σ H R I h
  refine wpAny_Call_Name_kw (ld_blt I hgz hmz (by decide +kernel : bootBuiltins "zip" = some (.type "zip")) ?_ (by decide) (by decide))
  refine PyProof.Rows.callWith_type1 (thn (ha pos2 pins s σ H _ I h) fun us s1 ⟨vs, H1, I1, r1, q1⟩ => ?_) he2 hpl
  obtain ⟨l1, l2, rfl, ⟨xs, hx⟩, ⟨ys, hy⟩, q⟩ := q1
  obtain ⟨u1, u2, rfl, e1, e2⟩ := vals2 r1
  cases e1
  cases e2
  obtain ⟨is1, v1, pl1, z1⟩ := I1.tuple hx
  obtain ⟨is2, v2, pl2, z2⟩ := I1.tuple hy
  have n1 : l1 < s1.heap.objs.size := by obtain ⟨_, e, _⟩ := (show s1.heap.IsTuple l1 is1.toArray from pl1); exact Heap.lt_size e
  have n2 : l2 < s1.heap.objs.size := by obtain ⟨_, e, _⟩ := (show s1.heap.IsTuple l2 is2.toArray from pl2); exact Heap.lt_size e
  refine ZipT.call2 (show s1.heap.IsTuple l1 is1.toArray from pl1) (show s1.heap.IsTuple l2 is2.toArray from pl2) fun h2 b1 b2 b3 b4 b5 b6 k2 => ?_
  refine wpAny_pyIter_zip (s := { s1 with heap := h2 }) b1 ?_
  have J : Inv X pins σ H1 { s1 with heap := h2, toks := s1.toks } := I1.kept k2
  refine ⟨_, [s1.heap.objs.size + 4, s1.heap.objs.size + 2, s1.heap.objs.size + 3, s1.heap.objs.size, s1.heap.objs.size + 1], _, _, H1, rfl, J, turn_zipT _ _ _ _ _ l1 l2 (zipApart_new n1 n2), ⟨b1, b2, ⟨_, _, b3⟩, b4, b5⟩, fun c hc => ?_, q⟩
  have ge : s1.heap.objs.size ≤ c := by
    simp only [List.mem_cons, List.not_mem_nil, or_false] at hc
    rcases hc with q | q | q | q | q <;> rw [q] <;> first | exact Nat.le_refl _ | exact Nat.le_add_right _ _
  exact I1.fpOk ge (I1.hok.fresh ge)
end
theorem comp_zipT {K : PySem.W.Frag} {l1 l2 D : Addr} {xs ys : List V} {g : TG} {tt : TT} {te : TE} {fin : Hp → Prop} {σ0 : St} {H0 : Hp} (Pv : Nat → List V → St → Hp → Prop) (h0 : Pv 0 [] σ0 H0)
    (hq : ∀ i zs σ H, i ≤ min xs.length ys.length → Pv i zs σ H → SqT K H l1 xs ∧ SqT K H l2 ys ∧ H D = some (.lst zs))
    (hs : ∀ i x y p zs σ H, xs[i]? = some x → ys[i]? = some y → Pv i zs σ H → H p = none → g (.ref p) σ (upd H p (.tup [x, y])) fun σ2 H2 => tt σ2 H2 fun ok H3 => if ok = true then te σ2 H3 fun y H4 => H4 D = some (.lst zs) ∧ zs.length < sizeLine ∧ Pv (i + 1) (zs ++ [y]) σ2 (upd H4 D (.lst (zs ++ [y]))) else Pv (i + 1) zs σ2 H3)
    (hd : ∀ zs σ H, Pv (min xs.length ys.length) zs σ H → fin H) : ∃ W : Nat → Nat → List V → St → Hp → Prop, (∃ m, W 0 m [] σ0 H0) ∧ CompW (Itzt K l1 l2) g tt te D W fin := by
  refine ⟨fun i m zs σ H => m = min xs.length ys.length - i ∧ i ≤ min xs.length ys.length ∧ Pv i zs σ H, ⟨min xs.length ys.length, by simp, Nat.zero_le _, h0⟩, ?_⟩
  rintro i m zs σ H ⟨rfl, hi, p⟩
  obtain ⟨q1, q2, hD⟩ := hq i zs σ H hi p
  refine ⟨hD, ?_⟩
  by_cases hlt : i < min xs.length ys.length
  · have c1 : i < xs.length := by omega
    have c2 : i < ys.length := by omega
    refine .inr ⟨⟨xs, ys, xs[i], ys[i], q1, q2, by simp [c1], by simp [c2]⟩, Pv (i + 1), fun ys' σ' H' p' => ⟨min xs.length ys.length - (i + 1), by omega, rfl, hlt, p'⟩, fun v H' y => ?_⟩
    obtain ⟨a, x, y', rfl, hn, rfl, y1, y2⟩ := y
    exact hs i x y' a zs σ H (y1 xs q1) (y2 ys q2) p hn
  · have e : i = min xs.length ys.length := by omega
    subst e
    exact .inl ⟨⟨xs, ys, q1, q2, by omega⟩, hd zs σ H p⟩
end L2
namespace L2
open PySem PySem.Spec PyProof.Rows
section
variable {X : Cx}
def rEqNilT (K : PySem.W.Frag) (A : Around) : R2 := fun x y H Q => ∃ a b xs, x = .ref a ∧ y = .ref b ∧ SqT K H a xs ∧ SqT K H b [] ∧ A.units < cLine ∧ Q (.bl xs.isEmpty) H
theorem op_eqNilT : OpR X (compareOp .Eq) (rEqNilT X.K X.A) := by
  intro pins s σ H x y v u Q I rx ry h
  obtain ⟨a, b, xs, rfl, rfl, ha, hb, hu, q⟩ := h
  cases rx
  cases ry
  obtain ⟨i1, r1, p1, z1⟩ := I.tuple ha
  obtain ⟨i2, r2, p2, z2⟩ := I.tuple hb
  have e2 : i2 = [] := by cases r2; rfl
  subst e2
  have := SeqAt.RcAt.tuples (A := X.A) (e := fun _ => true) (show s.heap.IsTuple a i1.toArray from p1) (show s.heap.IsTuple b #[] from p2) hu (fun j h1 h2 => absurd h2 (by simp))
  have e : ((List.range (min i1.toArray.size (#[] : Array Value).size)).all (fun _ => true) && i1.toArray.size == (#[] : Array Value).size) = xs.isEmpty := by
    have hl := r1.length
    cases xs with
    | nil =>
      have e1 : i1 = [] := by cases r1; rfl
      subst e1; rfl
    | cons x xs =>
      rw [List.size_toArray, ← hl]
      simp
  rw [e] at this
  exact this X.prog X.w X.xe _ ⟨.bl _, H, I, rfl, q⟩
end
end L2
namespace L2
open PySem PySem.Spec PyProof.Rows
def ItnL (K : PySem.W.Frag) (a : Addr) (xs : List V) : It :=
  ⟨fun i H => i < xs.length ∧ SqL K H a xs,
   fun i H v H' => ∃ p x, v = .ref p ∧ H p = none ∧ H' = upd H p (.tup [.int i, x]) ∧ xs[i]? = some x,
   fun i H => xs.length ≤ i ∧ SqL K H a xs⟩
theorem turn_enumL {P : Program} {w : World} {K : PySem.W.Frag} {es : List Expr} {k : Nat} {pos : Pos} (e it a : Addr) (xs : List V) (hei : e ≠ it) (hae : a ≠ e) (hai : a ≠ it) :
    Turn P w K (.Tuple es k pos) (ItnL K a xs) [e, it] e (fun i h => i ≤ xs.length ∧ (∃ old, IsEnum h e it ((i : Nat) : Int) old) ∧ h.IsListIter it a i) where
  mem := by simp
  obj := fun i h st b hb => by
    obtain ⟨_, ⟨old, he⟩, ⟨o, eo, _, d⟩⟩ := st
    simp only [List.mem_cons, List.not_mem_nil, or_false] at hb
    rcases hb with rfl | rfl
    · exact ⟨_, he, fun v q => nomatch q⟩
    · exact ⟨_, eo, fun v q => by rw [d] at q; cases q⟩
  keep := fun i h h' st hk => by
    obtain ⟨hi, ⟨old, he⟩, ht⟩ := st
    exact ⟨hi, ⟨old, hk e (by simp) _ he⟩, ht.at fun o eo => hk it (by simp) o eo⟩
  item := by
    intro X hP hw hK hc i pins s σ H E I hf st hg
    subst hP hw hK
    obtain ⟨hlt, hq⟩ := hg
    obtain ⟨hi, ⟨old, he⟩, ht⟩ := st
    obtain ⟨its, rv, p, _⟩ := I.list hq
    have hx : xs[i]? = some xs[i] := List.getElem?_eq_getElem hlt
    obtain ⟨u, hu, ru⟩ := rv.get hx
    have hsz : its.toArray.size = xs.length := by rw [List.size_toArray]; exact rv.length.symm
    refine wpAny_pyNext_enum_itemD (Draws.list (A := X.A.in1) (I.ok.hd hc) it a hai its.toArray) he ⟨ht, p.isList⟩ (by omega) hei (by simp only [List.mem_cons, List.not_mem_nil, or_false, not_or]; exact ⟨hei, fun q => hae q.symm⟩) fun y h' tk py ho st' ht' hz' hk => ?_
    have ey : y = u := by
      have z : its.toArray[i]? = some u := by simpa using hu
      exact Option.some.inj (py.symm.trans z)
    subst ey
    refine ⟨_, rfl, wpAny_letOwnedTupleGo_enum (s := { s with heap := h', toks := tk + 1 }) ho fun h'' he'' hs'' => ?_⟩
    have lt : ∀ {c o}, s.heap.get? c = some o → s.heap.objs.size ≠ c := fun q => Nat.ne_of_gt (Heap.lt_size q)
    have ne : s.heap.objs.size ≠ e := lt he
    have kk : ∀ c o, c ∉ [e, it] → s.heap.get? c = some o → h''.get? c = some o := fun c o m q => by
      simp only [List.mem_cons, List.not_mem_nil, or_false, not_or] at m
      exact hs''.extBut _ _ m.1 (hk c o m.1 m.2 q)
    have J : Inv X pins σ (upd H s.heap.objs.size (.tup [.int i, xs[i]])) { s with heap := h'', toks := tk + 1 } := I.turnLay kk hf (Nat.le_refl _) ⟨by show 2 ≤ sizeLine; decide, [.int i tk, y], .cons ⟨tk, rfl⟩ (.cons ru .nil), ⟨_, hs''.extBut _ _ ne ht', rfl, _, rfl⟩⟩
    refine ⟨.ref s.heap.objs.size, _, J, rfl, ⟨_, _, rfl, I.hok.fresh (Nat.le_refl _), rfl, hx⟩, ⟨by omega, ⟨_, by have := he''; simpa using this⟩, st'.1.extBut hs''.extBut (fun q => hei q.symm)⟩, fun c hc => ?_⟩
    have nc : c ≠ s.heap.objs.size := fun q => by
      subst q
      simp only [List.mem_cons, List.not_mem_nil, or_false] at hc
      rcases hc with q | q
      · exact lt he q
      · obtain ⟨_, eo, _⟩ := ht; exact lt eo q
    rw [upd_ne nc]
    exact (hf c hc).1
  done := by
    intro X hP hw hK hc i pins s σ H E I hf st hg
    subst hP hw hK
    obtain ⟨hge, hq⟩ := hg
    obtain ⟨hi, ⟨old, he⟩, ht⟩ := st
    obtain ⟨its, rv, p, _⟩ := I.list hq
    have hsz : its.toArray.size = xs.length := by rw [List.size_toArray]; exact rv.length.symm
    have ei : i = its.toArray.size := by omega
    rw [ei] at ht
    refine wpAny_pyNext_enum_endD (Draws.list (A := X.A.in1) (I.ok.hd hc) it a hai its.toArray) he ⟨ht, p.isList⟩ fun h' eb => ⟨rfl, I.turnL (t' := s.toks) (fp := [e, it]) (fun c u m q => ?_) hf⟩
    simp only [List.mem_cons, List.not_mem_nil, or_false, not_or] at m
    exact eb c u m.2 q
  self := fun A i s Q E st h => by
    obtain ⟨_, ⟨old, he⟩, _⟩ := st
    exact wpAny_pyIter_enum he h
def iEnumL (K : PySem.W.Frag) (t : TA) : TI := fun σ H R => t σ H fun vs H1 => ∃ p xs, vs = [.ref p] ∧ SqL K H1 p xs ∧ R (ItnL K p xs) H1
section
variable {X : Cx} {es : List Expr} {k : Nat} {p2 pos pos2 : Pos} {a : Expr} {t : TA}
theorem pi_enumL (hgz : Gl X "enumerate") (hmz : X.mg "enumerate" = none) (ha : PA X [a] t)
    (he2 : starEach [a] X.env = (false, eval a X.env) :: starEach [] X.env := by rfl) (hpl : (backTo pos2 (starEach [] X.env)).any (·.1) = false := by rfl) :
    PI X (.Tuple es k pos) (.Call (.Name "enumerate" p2) [a] [] pos2) (iEnumL X.K t) := by
  intro pins s σ H R I h
  refine wpAny_Call_Name_kw (ld_blt I hgz hmz (by decide +kernel : bootBuiltins "enumerate" = some (.type "enumerate")) ?_ (by decide) (by decide))
  refine PyProof.Rows.callWith_type1 (thn (ha pos2 pins s σ H _ I h) fun us s1 ⟨vs, H1, I1, r1, q1⟩ => ?_) he2 hpl
  obtain ⟨l, xs, rfl, hx, q⟩ := q1
  obtain ⟨u1, rfl, e1⟩ := vals1 r1
  cases e1
  obtain ⟨its, rv, pl, z⟩ := I1.list hx
  have nl : l < s1.heap.objs.size := by obtain ⟨_, e, _⟩ := pl.isList; exact Heap.lt_size e
  refine call_enumerate_list pl.isList fun h2 b1 b2 _ k2 => ?_
  refine wpAny_pyIter_enum (s := { s1 with heap := h2 }) b1 ?_
  have J : Inv X pins σ H1 { s1 with heap := h2, toks := s1.toks } := I1.kept k2
  refine ⟨_, [s1.heap.objs.size + 1, s1.heap.objs.size], _, _, H1, rfl, J, turn_enumL _ _ l xs (Nat.succ_ne_self _) (Nat.ne_of_lt (Nat.lt_succ_of_lt nl)) (Nat.ne_of_lt nl), ⟨Nat.zero_le _, ⟨_, b1⟩, b2⟩, fun c hc => ?_, q⟩
  have ge : s1.heap.objs.size ≤ c := by
    simp only [List.mem_cons, List.not_mem_nil, or_false] at hc
    rcases hc with q | q <;> rw [q] <;> first | exact Nat.le_refl _ | exact Nat.le_add_right _ _
  exact I1.fpOk ge (I1.hok.fresh ge)
end
theorem for_enumL {K : PySem.W.Frag} {a : Addr} {xs : List V} {g : TG} {tb : TS} {D : Ends} {σ : St} {H : Hp} (Pv : Nat → St → Hp → Prop) (h0 : Pv 0 σ H) (hl : ∀ i σ H, i ≤ xs.length → Pv i σ H → SqL K H a xs)
    (hs : ∀ i x p σ H, xs[i]? = some x → Pv i σ H → H p = none → g (.ref p) σ (upd H p (.tup [.int i, x])) fun σ2 H2 => tb { D with nx := Pv (i + 1), ct := Pv (i + 1), bk := D.nx } σ2 H2) (hd : ∀ σ H, Pv xs.length σ H → D.nx σ H) :
    ∃ W : Nat → Nat → St → Hp → Prop, (∃ m, W 0 m σ H) ∧ ∀ i m σ H, W i m σ H →
      ((ItnL K a xs).stop i H ∧ D.nx σ H) ∨ ((ItnL K a xs).go i H ∧ ∃ N : St → Hp → Prop, (∀ σ' H', N σ' H' → ∃ m', m' < m ∧ W (i + 1) m' σ' H') ∧ ∀ x H', (ItnL K a xs).yld i H x H' → g x σ H' fun σ2 H2 => tb { D with nx := N, ct := N, bk := D.nx } σ2 H2) := by
  refine ⟨fun i m σ H => m = xs.length - i ∧ i ≤ xs.length ∧ Pv i σ H, ⟨xs.length, by simp, Nat.zero_le _, h0⟩, ?_⟩
  rintro i m σ H ⟨rfl, hi, p⟩
  have q := hl i σ H hi p
  by_cases hlt : i < xs.length
  · refine .inr ⟨⟨hlt, q⟩, Pv (i + 1), fun σ' H' p' => ⟨xs.length - (i + 1), by omega, rfl, hlt, p'⟩, fun x H' y => ?_⟩
    obtain ⟨r, z, rfl, hr, rfl, hz⟩ := y
    exact hs i z r σ H hz p hr
  · have e : i = xs.length := by omega
    subst e
    exact .inl ⟨⟨Nat.le_refl _, q⟩, hd σ H p⟩
end L2
namespace K19
open PySem PySem.Spec PyProof.Rows L2 K01
theorem b_len : bootBuiltins "len" = some (.builtin "len") := by decide +kernel
theorem b_all : bootBuiltins "all" = some (.builtin "all") := by decide +kernel
theorem b_any : bootBuiltins "any" = some (.builtin "any") := by decide +kernel
theorem b_max : bootBuiltins "max" = some (.builtin "max") := by decide +kernel
theorem b_min : bootBuiltins "min" = some (.builtin "min") := by decide +kernel
theorem b_isinstance : bootBuiltins "isinstance" = some (.builtin "isinstance") := by decide +kernel
theorem b_tuple : bootBuiltins "tuple" = some (.type "tuple") := by decide +kernel
theorem b_list : bootBuiltins "list" = some (.type "list") := by decide +kernel
theorem b_set : bootBuiltins "set" = some (.type "set") := by decide +kernel
theorem b_int : bootBuiltins "int" = some (.type "int") := by decide +kernel
theorem b_str : bootBuiltins "str" = some (.type "str") := by decide +kernel
theorem b_bool : bootBuiltins "bool" = some (.type "bool") := by decide +kernel
theorem b_dict : bootBuiltins "dict" = some (.type "dict") := by decide +kernel
structure Bn (mg : Str → Option Value) : Prop where
  len : mg "len" = none
  all : mg "all" = none
  any : mg "any" = none
  max : mg "max" = none
  min : mg "min" = none
  isinstance : mg "isinstance" = none
  tuple : mg "tuple" = none
  list : mg "list" = none
  set : mg "set" = none
  int : mg "int" = none
  str : mg "str" = none
  bool : mg "bool" = none
  dict : mg "dict" = none
  range : mg "range" = none
  zip : mg "zip" = none
  enumerate : mg "enumerate" = none
structure Cn (mg : Str → Option Value) : Prop where
  LETTERS : ∃ t, mg "LETTERS" = some (.str LET t)
  GREATEST_WHOLE : ∃ t, mg "GREATEST_WHOLE" = some (.int 1000000000000000000 t)
  GREATEST_NUMBER : ∃ t, mg "GREATEST_NUMBER" = some (.int 999 t)
  LONGEST_TEXT : ∃ t, mg "LONGEST_TEXT" = some (.int 200 t)
  LONGEST_NAME : ∃ t, mg "LONGEST_NAME" = some (.int 8 t)
  MOST_PARTS : ∃ t, mg "MOST_PARTS" = some (.int 20 t)
  MOST_FIELDS : ∃ t, mg "MOST_FIELDS" = some (.int 8 t)
theorem iteN {b : Bool} {A B : Prop} (h : b = false) (q : B) : if b = true then A else B := by subst h; exact iteF q
theorem iteY {b : Bool} {A B : Prop} (h : b = true) (q : A) : if b = true then A else B := by subst h; exact iteT q
abbrev s_law_feed : Stmt := top 23
abbrev N_law_feed : List Str := ["_law_script"]
theorem sc_law_feed : FnScope N_law_feed ["_law_script"] (defScope s_law_feed) := ⟨rfl, rfl, rfl, by decide +kernel, rfl, by decide +kernel, by decide +kernel⟩
abbrev s_law_draw : Stmt := top 24
abbrev N_law_draw : List Str := ["_law_feed_here", "_law_many_here", "_law_turn", "_law_cell", "_law_mixed", "_law_digit"]
theorem sc_law_draw : FnScope N_law_draw ["_law_feed_here", "_law_many_here"] (defScope s_law_draw) := ⟨rfl, rfl, rfl, by decide +kernel, rfl, by decide +kernel, by decide +kernel⟩
def spFeed (K : PySem.W.Frag) : Sp := fun vs H Q _ => ∃ (a : Addr) (ns : List Int), vs = [.ref a] ∧ SqL K H a (ns.map V.int) ∧ ns.length ≤ 63 ∧ ∀ (l : Addr) (H' : Hp), Same H H' → H l = none → Fd 1000000000000 H' l → Q (.ref l) H'
def spDraw : Sp := fun vs H Q _ => ∃ (l : Addr) (m : Int) (r : Nat), vs = [.ref l, .int m] ∧ Fd (r + 1) H l ∧ 0 < m ∧ m < 1073741824 ∧ ∀ (x : Int) (H' : Hp), 0 ≤ x → x < m → Stp l r H H' → Q (.int x) H'
theorem pickS (ss : List Str) {r : Int} (h0 : 0 ≤ r) (h1 : r < ss.length) : ∃ x, x ∈ ss ∧ atI (ss.map V.str) r = some (.str x) := by
  have hj : r.toNat < ss.length := by omega
  refine ⟨ss[r.toNat], List.getElem_mem hj, ?_⟩
  have z : atI (ss.map V.str) ((r.toNat : Nat) : Int) = some (.str ss[r.toNat]) := atI_nat (by rw [List.getElem?_map, List.getElem?_eq_getElem hj]; rfl)
  rw [show ((r.toNat : Nat) : Int) = r by omega] at z
  exact z
theorem pickI (ns : List Int) {r : Int} (h0 : 0 ≤ r) (h1 : r < ns.length) : ∃ n, n ∈ ns ∧ atI (ns.map V.int) r = some (.int n) := by
  have hj : r.toNat < ns.length := by omega
  refine ⟨ns[r.toNat], List.getElem_mem hj, ?_⟩
  have z : atI (ns.map V.int) ((r.toNat : Nat) : Int) = some (.int ns[r.toNat]) := atI_nat (by rw [List.getElem?_map, List.getElem?_eq_getElem hj]; rfl)
  rw [show ((r.toNat : Nat) : Int) = r by omega] at z
  exact z
theorem cut_all (ws : List V) {k : Nat} (h : ws.length ≤ k) : cutV ws none (some (k : Int)) = ws := by
  unfold cutV
  rw [HT.sIx_nat, HT.sIx_none, List.drop_zero, Nat.sub_zero, Nat.min_eq_right h, List.take_length]
section
variable {P : Program} {w : World} {K : PySem.W.Frag} {mg : Str → Option Value} {base : Heap} {f : Addr} {fd : FuncData}
theorem ok_feed (F : Fun K "_law_feed" "_law_feed" s_law_feed f fd) (m : Bn mg) : FnOk P w K mg base CX0 1 f fd ["_law_script"] (spFeed K) := by
  refine F.ok sc_law_feed (fun vs H Q E h => ?_) (fun cdv A outer s H vs Q E hr h => ?_)
  · obtain ⟨a, ns, rfl, _⟩ := h
    rfl
  obtain ⟨a, ns, rfl, hS, h63, q⟩ := h
  refine ⟨_, (@pss_one _ _ _ (@ps_ret _ _ _ _ (@pe_lst _ _ _ _ (@pa_cons _ _ _ _ _ (@pe_op _ _ _ _ _ _ _ _ op_cat (@pe_callTy _ _ _ _ _ _ _ _ _ call_list_of rfl m.list b_list (@pa_cons _ _ _ _ _ (@pe_slice _ _ _ _ _ _ _ _ _ _ sl_list (pv 0) (@po_none _) (@po_some _ _ _ pe_int)) pa_nil rfl) (by first | rfl | decide | (intro _; rfl) | exact .inl rfl | exact .inr rfl | assumption) (by first | rfl | decide | (intro _; rfl) | exact .inl rfl | exact .inr rfl | assumption) (by first | rfl | decide | (intro _; rfl) | exact .inl rfl | exact .inr rfl | assumption) (by first | rfl | decide | (intro _; rfl) | exact .inl rfl | exact .inr rfl | assumption)) (@pe_op _ _ _ _ _ _ _ _ op_repL (@pe_lst _ _ _ _ (@pa_cons _ _ _ _ _ pe_int pa_nil rfl)) (@pe_callTy _ _ _ _ _ _ _ _ _ call_int1 rfl m.int b_int (@pa_cons _ _ _ _ _ (@pe_cmpR _ _ _ _ _ _ _ _ op_eqNil (pv 0) (@pe_lst _ _ _ _ pa_nil) (nomark _)) pa_nil rfl) (by first | rfl | decide | (intro _; rfl) | exact .inl rfl | exact .inr rfl | assumption) (by first | rfl | decide | (intro _; rfl) | exact .inl rfl | exact .inr rfl | assumption) (by first | rfl | decide | (intro _; rfl) | exact .inl rfl | exact .inr rfl | assumption) (by first | rfl | decide | (intro _; rfl) | exact .inl rfl | exact .inr rfl | assumption)))) (@pa_cons _ _ _ _ _ pe_int (@pa_cons _ _ _ _ _ pe_int (@pa_cons _ _ _ _ _ pe_int pa_nil rfl) rfl) rfl) rfl)))), ?_⟩
  refine ⟨_, rfl, _, rfl, a, _, rfl, hS, fun p1 h1 => ?_⟩
  have e63 : cutV (ns.map V.int) none (some 63) = ns.map V.int := cut_all (k := 63) _ (by rw [List.length_map]; exact h63)
  rw [e63]
  have s1 := Same.lay (o := .lst (ns.map V.int)) h1
  refine ⟨p1, _, rfl, .inl (SqL.of upd_same), fun p2 h2 => ⟨(by show 1 ≤ sizeLine; decide), fun p3 h3 => ?_⟩⟩
  have s2 := Same.lay (o := .lst (ns.map V.int)) h2
  have s3 := Same.lay (o := .lst [.int 0]) h3
  refine ⟨_, rfl, (by show 0 ≤ sizeLine; decide), fun p4 h4 => ?_⟩
  have s4 := Same.lay (o := .lst []) h4
  have s14 := s1.trans (s2.trans (s3.trans s4))
  refine ⟨a, p4, _, rfl, rfl, s14.seq hS, SqL.of upd_same, Nat.lt_of_le_of_lt (Nat.le_add_right _ 1) (hu_of hr), .inr ⟨_, rfl, ?_⟩⟩
  have m2 : SqL K _ p2 (ns.map V.int) := SqL.of ((s3.trans s4) _ _ upd_same)
  refine ⟨p3, _, _, rfl, rfl, s4 _ _ upd_same, (by split <;> simp), fun p5 h5 => ?_⟩
  have s5 := Same.lay (o := .lst (List.replicate ((if (ns.map V.int).isEmpty = true then (1 : Int) else 0)).toNat (V.int 0))) h5
  refine ⟨p2, p5, _, _, rfl, rfl, (s3.trans (s4.trans s5)) _ _ upd_same, upd_same, ?_, fun p6 h6 => ⟨(by show 4 ≤ sizeLine; decide), fun p7 h7 => ?_⟩⟩
  · rw [List.length_map, List.length_replicate]
    refine Nat.le_trans (show _ ≤ 64 from ?_) (by decide)
    split <;> simp <;> omega
  have s6 := Same.lay (o := .lst (ns.map V.int ++ List.replicate ((if (ns.map V.int).isEmpty = true then (1 : Int) else 0)).toNat (V.int 0))) h6
  have s7 := Same.lay (o := .lst [.ref p6, .int 0, .int 0, .int 0]) h7
  have ss := s14.trans (s5.trans (s6.trans s7))
  have hl7 : H p7 = none := (s14.trans (s5.trans s6)).free h7
  refine q p7 _ ss hl7 ⟨p6, ns ++ List.replicate ((if (ns.map V.int).isEmpty = true then (1 : Int) else 0)).toNat 0, 0, 0, 0, upd_same, ?_, ?_, ?_, by decide, by decide, by decide⟩
  · rw [List.map_append, List.map_replicate]
    exact s7 _ _ upd_same
  · rw [List.length_append, List.length_replicate]
    cases ns <;> simp
  · rw [List.length_append, List.length_replicate]
    cases ns with
    | nil => simp
    | cons n ns => simp at h63 ⊢; omega
theorem ok_draw (F : Fun K "_law_draw" "_law_draw" s_law_draw f fd) (m : Bn mg) : FnOk P w K mg base CX0 1 f fd ["_law_feed_here", "_law_many_here"] spDraw := by
  refine F.ok sc_law_draw (fun vs H Q E h => ?_) (fun cdv A outer s H vs Q E hr h => ?_)
  · obtain ⟨l, m, r, rfl, _⟩ := h
    rfl
  obtain ⟨l, mm, r, rfl, ⟨a, ns, b, c, d, hH, hA, n1, n64, b0, d0, dr⟩, hm, hm2, q⟩ := h
  refine ⟨_, (@pss_cons _ _ _ _ _ (@ps_asg _ _ _ _ _ _ (@pe_op _ _ _ _ _ _ _ _ op_add (@pe_ix _ _ _ _ _ _ _ ix_list (pv 0) pe_int (fun _ _ =>  rfl)) pe_int) (@pg_sub _ _ _ _ _ _ _ (pv 0) pe_int set_list (by first | rfl | decide | (intro _; rfl) | exact .inl rfl | exact .inr rfl | assumption)) (by first | rfl | decide | (intro _; rfl) | exact .inl rfl | exact .inr rfl | assumption) (by first | rfl | decide | (intro _; rfl) | exact .inl rfl | exact .inr rfl | assumption) (by first | rfl | decide | (intro _; rfl) | exact .inl rfl | exact .inr rfl | assumption)) (@pss_cons _ _ _ _ _ (@ps_setI _ 2 _ _ _ _ _ sc_law_draw.nd rfl (by first | exact Or.inl rfl | exact Or.inr rfl) (@pe_ix _ _ _ _ _ _ _ ix_list (pv 0) pe_int (fun _ _ =>  rfl)) rfl (by first | exact .inl rfl | exact .inr rfl)) (@pss_cons _ _ _ _ _ (@ps_if _ _ _ _ _ _ _ _ (@pt_cmpR _ _ _ _ _ _ _ _ op_eq (@pe_ix _ _ _ _ _ _ _ ix_list (pv 0) pe_int (fun _ _ =>  rfl)) pe_int (nomark _)) (@pss_cons _ _ _ _ _ (@ps_setI _ 3 _ _ _ _ _ sc_law_draw.nd rfl (by first | exact Or.inl rfl | exact Or.inr rfl) (@pe_ix _ _ _ _ _ _ _ ix_list (@pe_ix _ _ _ _ _ _ _ ix_list (pv 0) pe_int (fun _ _ =>  rfl)) (@pe_op _ _ _ _ _ _ _ _ op_mod (@pe_ix _ _ _ _ _ _ _ ix_list (pv 0) pe_int (fun _ _ =>  rfl)) (@pe_callB _ _ _ _ _ _ _ _ _ call_len_seq rfl m.len b_len (@pa_cons _ _ _ _ _ (@pe_ix _ _ _ _ _ _ _ ix_list (pv 0) pe_int (fun _ _ =>  rfl)) pa_nil rfl) (by decide) (by decide) rfl rfl)) (fun _ _ =>  rfl)) rfl (by first | exact .inl rfl | exact .inr rfl)) (@pss_cons _ _ _ _ _ (@ps_asg _ _ _ _ _ _ (@pe_op _ _ _ _ _ _ _ _ op_add (@pe_ix _ _ _ _ _ _ _ ix_list (pv 0) pe_int (fun _ _ =>  rfl)) pe_int) (@pg_sub _ _ _ _ _ _ _ (pv 0) pe_int set_list (by first | rfl | decide | (intro _; rfl) | exact .inl rfl | exact .inr rfl | assumption)) (by first | rfl | decide | (intro _; rfl) | exact .inl rfl | exact .inr rfl | assumption) (by first | rfl | decide | (intro _; rfl) | exact .inl rfl | exact .inr rfl | assumption) (by first | rfl | decide | (intro _; rfl) | exact .inl rfl | exact .inr rfl | assumption)) (@pss_cons _ _ _ _ _ (@ps_if _ _ _ _ _ _ _ _ (@pt_cmpR _ _ _ _ _ _ _ _ op_lt (pv 3) (@pe_op _ _ _ _ _ _ _ _ op_pow pe_int pe_int) (nomark _)) (@pss_cons _ _ _ _ _ (@ps_setI _ 4 _ _ _ _ _ sc_law_draw.nd rfl (by first | exact Or.inl rfl | exact Or.inr rfl) (@pe_op _ _ _ _ _ _ _ _ op_add (@pe_op _ _ _ _ _ _ _ _ op_add (@pe_op _ _ _ _ _ _ _ _ op_add (@pe_op _ _ _ _ _ _ _ _ op_mod (pv 3) pe_int) (@pe_op _ _ _ _ _ _ _ _ op_mul (@pe_op _ _ _ _ _ _ _ _ op_mul pe_int (pv 2)) (pv 2))) (@pe_op _ _ _ _ _ _ _ _ op_mul pe_int (pv 2))) pe_int) rfl (by first | exact .inl rfl | exact .inr rfl)) (@pss_cons _ _ _ _ _ (@ps_setI _ 4 _ _ _ _ _ sc_law_draw.nd rfl (by first | exact Or.inl rfl | exact Or.inr rfl) (@pe_op _ _ _ _ _ _ _ _ op_mul (@pe_op _ _ _ _ _ _ _ _ op_fdiv (@pe_op _ _ _ _ _ _ _ _ op_mod (@pe_op _ _ _ _ _ _ _ _ op_mul (pv 4) pe_int) pe_int) pe_int) pe_int) rfl (by first | exact .inl rfl | exact .inr rfl)) (@pss_one _ _ _ (@ps_ret _ _ _ _ (@pe_op _ _ _ _ _ _ _ _ op_mod (@pe_op _ _ _ _ _ _ _ _ op_fdiv (@pe_op _ _ _ _ _ _ _ _ op_mod (pv 4) pe_int) pe_int) (pv 1)))))) pss_nil) (@pss_one _ _ _ (@ps_asg _ _ _ _ _ _ (pv 3) (@pg_sub _ _ _ _ _ _ _ (pv 0) pe_int set_list (by first | rfl | decide | (intro _; rfl) | exact .inl rfl | exact .inr rfl | assumption)) (by first | rfl | decide | (intro _; rfl) | exact .inl rfl | exact .inr rfl | assumption) (by first | rfl | decide | (intro _; rfl) | exact .inl rfl | exact .inr rfl | assumption) (by first | rfl | decide | (intro _; rfl) | exact .inl rfl | exact .inr rfl | assumption)))))) pss_nil) (@pss_cons _ _ _ _ _ (@ps_setI _ 5 _ _ _ _ _ sc_law_draw.nd rfl (by first | exact Or.inl rfl | exact Or.inr rfl) (@pe_op _ _ _ _ _ _ _ _ op_mod (@pe_ix _ _ _ _ _ _ _ ix_list (pv 0) pe_int (fun _ _ =>  rfl)) (pv 1)) rfl (by first | exact .inl rfl | exact .inr rfl)) (@pss_cons _ _ _ _ _ (@ps_asg _ _ _ _ _ _ (@pe_op _ _ _ _ _ _ _ _ op_fdiv (@pe_ix _ _ _ _ _ _ _ ix_list (pv 0) pe_int (fun _ _ =>  rfl)) (pv 1)) (@pg_sub _ _ _ _ _ _ _ (pv 0) pe_int set_list (by first | rfl | decide | (intro _; rfl) | exact .inl rfl | exact .inr rfl | assumption)) (by first | rfl | decide | (intro _; rfl) | exact .inl rfl | exact .inr rfl | assumption) (by first | rfl | decide | (intro _; rfl) | exact .inl rfl | exact .inr rfl | assumption) (by first | rfl | decide | (intro _; rfl) | exact .inl rfl | exact .inr rfl | assumption)) (@pss_one _ _ _ (@ps_ret _ _ _ _ (pv 5)))))))), ?_⟩
  have nal := fd_ne hH hA
  refine ⟨_, rfl, l, _, _, _, rfl, rfl, SqL.of hH, rfl, _, _, rfl, rfl, _, rfl, l, _, _, _, rfl, rfl, hH, rfl, ?_⟩
  have h2 : (upd H l (.lst [.ref a, .int b, .int c, .int (d + 1)])) l = some (.lst [.ref a, .int b, .int c, .int (d + 1)]) := upd_same
  have hA2 : (upd H l (.lst [.ref a, .int b, .int c, .int (d + 1)])) a = some (.lst (ns.map V.int)) := by rw [upd_ne nal]; exact hA
  have ok : ∀ b' c' : Int, 0 ≤ b' → Stp l r H (upd H l (.lst [.ref a, .int b', .int c', .int (d + 1)])) := fun b' c' hb => ⟨fun x o n h => by rw [upd_ne n]; exact h, ⟨a, ns, b', c', d + 1, upd_same, by rw [upd_ne nal]; exact hA, n1, n64, hb, by omega, by omega⟩, by rw [cellOf_eq hH, cellOf_eq upd_same]⟩
  refine ⟨_, rfl, l, _, _, _, rfl, rfl, SqL.of h2, rfl, ?_⟩
  refine ⟨_, rfl, l, _, _, _, rfl, rfl, SqL.of h2, rfl, rfl, _, rfl, ?_⟩
  have pw : CPow 10 18 := ⟨by decide, by decide, by decide⟩
  have hpos : (0 : Int) < (((ns.map V.int).length : Nat) : Int) := by rw [List.length_map]; omega
  have hr0 := Int.emod_nonneg b (Int.ne_of_gt hpos)
  have hr1 := Int.emod_lt_of_pos b hpos
  obtain ⟨cell, _, hat⟩ := pickI ns (r := b % (((ns.map V.int).length : Nat) : Int)) hr0 (by rw [List.length_map] at hr1 ⊢; exact hr1)
  refine ite2 (fun c1 => ?_) (fun c1 => ?_)
  · refine ⟨_, rfl, l, _, _, _, rfl, rfl, SqL.of h2, rfl, _, rfl, l, _, _, _, rfl, rfl, SqL.of h2, rfl, _, rfl, l, _, _, _, rfl, rfl, SqL.of h2, rfl, a, _, rfl, .inl (SqL.of hA2), _, _, rfl, rfl, hpos, a, _, _, _, rfl, rfl, SqL.of hA2, hat, ?_⟩
    refine ⟨_, rfl, l, _, _, _, rfl, rfl, SqL.of h2, rfl, _, _, rfl, rfl, _, rfl, l, _, _, _, rfl, rfl, h2, rfl, ?_⟩
    rw [upd_upd]
    refine ⟨_, rfl, _, _, rfl, rfl, pw, _, _, rfl, rfl, _, rfl, ?_⟩
    have h3 : (upd H l (.lst [.ref a, .int (b + 1), .int c, .int (d + 1)])) l = some (.lst [.ref a, .int (b + 1), .int c, .int (d + 1)]) := upd_same
    refine ite2 (fun c2 => ?_) (fun c2 => ?_)
    · refine ⟨_, rfl, _, _, rfl, rfl, (show (0 : Int) < 2147483629 by decide), _, rfl, _, _, rfl, rfl, .inl ⟨by decide, by decide⟩, _, rfl, _, _, rfl, rfl, .inr ⟨by omega, by omega⟩, _, _, rfl, rfl, _, rfl, _, _, rfl, rfl, .inl ⟨by decide, by decide⟩, _, _, rfl, rfl, _, _, rfl, rfl, ?_⟩
      refine ⟨_, rfl, _, _, rfl, rfl, .inr ⟨by decide, by decide⟩, _, _, rfl, rfl, (show (0 : Int) < 2147483647 by decide), _, _, rfl, rfl, ⟨by decide, by decide⟩, _, _, rfl, rfl, .inr ⟨by decide, by decide⟩, ?_⟩
      refine ⟨_, rfl, _, _, rfl, rfl, (show (0 : Int) < 2147483629 by decide), _, _, rfl, rfl, ⟨by decide, by decide⟩, _, rfl, _, _, rfl, rfl, hm, ?_⟩
      exact q _ _ (Int.emod_nonneg _ (by omega)) (Int.emod_lt_of_pos _ hm) (ok _ _ (by omega))
    · refine ⟨_, rfl, _, rfl, l, _, _, _, rfl, rfl, h3, rfl, ?_⟩
      rw [upd_upd]
      have h4 : (upd H l (.lst [.ref a, .int (b + 1), .int cell, .int (d + 1)])) l = some (.lst [.ref a, .int (b + 1), .int cell, .int (d + 1)]) := upd_same
      refine ⟨_, rfl, l, _, _, _, rfl, rfl, SqL.of h4, rfl, _, rfl, _, _, rfl, rfl, hm, ?_⟩
      refine ⟨_, rfl, l, _, _, _, rfl, rfl, SqL.of h4, rfl, _, rfl, _, _, rfl, rfl, ⟨hm, hm2⟩, _, rfl, l, _, _, _, rfl, rfl, h4, rfl, _, rfl, ?_⟩
      rw [upd_upd]
      exact q _ _ (Int.emod_nonneg _ (by omega)) (Int.emod_lt_of_pos _ hm) (ok _ _ (by omega))
  · refine ⟨_, rfl, l, _, _, _, rfl, rfl, SqL.of h2, rfl, _, rfl, _, _, rfl, rfl, hm, ?_⟩
    refine ⟨_, rfl, l, _, _, _, rfl, rfl, SqL.of h2, rfl, _, rfl, _, _, rfl, rfl, ⟨hm, hm2⟩, _, rfl, l, _, _, _, rfl, rfl, h2, rfl, _, rfl, ?_⟩
    rw [upd_upd]
    exact q _ _ (Int.emod_nonneg _ (by omega)) (Int.emod_lt_of_pos _ hm) (ok _ _ b0)
end
end K19
namespace K19
open PySem PySem.Spec PyProof.Rows L2 K01
abbrev s_is_whole : Stmt := top 6
abbrev N_is_whole : List Str := ["thing", "low", "high"]
theorem sc_is_whole : FnScope N_is_whole ["thing", "low", "high"] (defScope s_is_whole) := ⟨rfl, rfl, rfl, by decide +kernel, rfl, by decide +kernel, by decide +kernel⟩
abbrev s_is_item_whole : Stmt := top 7
abbrev N_is_item_whole : List Str := ["thing"]
theorem sc_is_item_whole : FnScope N_is_item_whole ["thing"] (defScope s_is_item_whole) := ⟨rfl, rfl, rfl, by decide +kernel, rfl, by decide +kernel, by decide +kernel⟩
abbrev s_is_number : Stmt := top 8
abbrev N_is_number : List Str := ["thing"]
theorem sc_is_number : FnScope N_is_number ["thing"] (defScope s_is_number) := ⟨rfl, rfl, rfl, by decide +kernel, rfl, by decide +kernel, by decide +kernel⟩
abbrev s_is_name : Stmt := top 9
abbrev N_is_name : List Str := ["thing"]
theorem sc_is_name : FnScope N_is_name ["thing"] (defScope s_is_name) := ⟨rfl, rfl, rfl, by decide +kernel, rfl, by decide +kernel, by decide +kernel⟩
abbrev s_rises : Stmt := top 10
abbrev N_rises : List Str := ["things"]
theorem sc_rises : FnScope N_rises ["things"] (defScope s_rises) := ⟨rfl, rfl, rfl, by decide +kernel, rfl, by decide +kernel, by decide +kernel⟩
abbrev s_law_whole : Stmt := top 26
abbrev N_law_whole : List Str := ["_law_thing", "_law_low", "_law_high"]
theorem sc_law_whole : FnScope N_law_whole ["_law_thing", "_law_low", "_law_high"] (defScope s_law_whole) := ⟨rfl, rfl, rfl, by decide +kernel, rfl, by decide +kernel, by decide +kernel⟩
abbrev s_law_is_name : Stmt := top 25
abbrev N_law_is_name : List Str := ["_law_thing"]
theorem sc_law_is_name : FnScope N_law_is_name ["_law_thing"] (defScope s_law_is_name) := ⟨rfl, rfl, rfl, by decide +kernel, rfl, by decide +kernel, by decide +kernel⟩
def spWhole (K : PySem.W.Frag) : Sp := fun vs H Q _ => ∃ v t lo hi, vs = [v, .int lo, .int hi] ∧ IsTh K H t v ∧ Q (.bl (wholeTh lo hi t)) H
def spW1 (K : PySem.W.Frag) (lo hi : Int) : Sp := fun vs H Q _ => ∃ v t, vs = [v] ∧ IsTh K H t v ∧ Q (.bl (wholeTh lo hi t)) H
def spName (K : PySem.W.Frag) : Sp := fun vs H Q _ => ∃ v t, vs = [v] ∧ IsTh K H t v ∧ gdT t ∧ ∀ H', Same H H' → Q (.bl (nameTh t)) H'
def spRises (K : PySem.W.Frag) : Sp := fun vs H Q _ => ∃ (a : Addr) (ns : List Int) (ws : List V), vs = [.ref a] ∧ SqL K H a ws ∧ AreTh K H (ns.map Th.int) ws ∧ ns.length ≤ 1000000 ∧ ∀ H', Same H H' → Q (.bl (risesTh (ns.map Th.int))) H'
def spRisesT (K : PySem.W.Frag) : Sp := fun vs H Q _ => ∃ (a : Addr) (ns : List Int) (ws : List V), vs = [.ref a] ∧ SqT K H a ws ∧ AreTh K H (ns.map Th.int) ws ∧ ns.length ≤ 1000000 ∧ ∀ H', Same H H' → Q (.bl (risesTh (ns.map Th.int))) H'
theorem alwaysT {σ : L2.St} {H : Hp} {A B : Hp → Prop} (h : A H) : tAlways σ H fun ok H3 => if ok = true then A H3 else B H3 := by
  show if true = true then A H else B H
  exact iteT (A := A H) (B := B H) h
section
variable {P : Program} {w : World} {K : PySem.W.Frag} {mg : Str → Option Value} {base : Heap} {f : Addr} {fd : FuncData}
theorem ok_is_whole (F : Fun K "is_whole" "is_whole" s_is_whole f fd) (m : Bn mg) : FnOk P w K mg base CX0 1 f fd ["thing", "low", "high"] (spWhole K) := by
  refine F.ok sc_is_whole (fun vs H Q E h => ?_) (fun cdv A outer s H vs Q E hr h => ?_)
  · obtain ⟨v, t, lo, hi, rfl, _⟩ := h
    rfl
  obtain ⟨v, t, lo, hi, rfl, ht, q⟩ := h
  refine ⟨_, (@pss_one _ _ _ (@ps_ret _ _ _ _ (@pe_and _ _ _ _ _ _ _ (@pe_callB _ _ _ _ _ _ _ _ _ call_isiTh rfl m.isinstance b_isinstance (@pa_cons _ _ _ _ _ (pv 0) (@pa_cons _ _ _ _ _ (@pe_bltnT _ _ _ _ rfl m.int b_int (by decide) (by decide)) pa_nil rfl) rfl) (by decide) (by decide) rfl rfl) (@pe_and _ _ _ _ _ _ _ (@pe_not _ _ _ _ (@pe_callB _ _ _ _ _ _ _ _ _ call_isiTh rfl m.isinstance b_isinstance (@pa_cons _ _ _ _ _ (pv 0) (@pa_cons _ _ _ _ _ (@pe_bltnT _ _ _ _ rfl m.bool b_bool (by decide) (by decide)) pa_nil rfl) rfl) (by decide) (by decide) rfl rfl)) (@pe_one _ _ _ _ _ (@pe_chain _ _ _ _ _ _ _ _ _ _ _ _ op_le op_le (pv 1) (pv 0) (pv 2) (by first | rfl | decide | (intro _; rfl) | exact .inl rfl | exact .inr rfl | assumption))))))), ?_⟩
  refine ⟨_, rfl, _, _, t, rfl, ht, (by simp), _, rfl, ?_⟩
  cases t with
  | int i =>
    cases (show v = .int i from ht)
    refine iteT ⟨_, rfl, _, _, .int i, rfl, ht, (by simp), _, rfl, _, rfl, iteT ?_⟩
    refine ⟨_, rfl, _, rfl, _, _, rfl, rfl, _, rfl, ?_⟩
    refine ite2 (fun c => ?_) (fun c => ?_)
    · refine ⟨_, rfl, _, _, rfl, rfl, ?_⟩
      have e : wholeTh lo hi (.int i) = decide (i ≤ hi) := by simp only [wholeTh, c, Bool.true_and]
      rw [e] at q
      exact q
    · have e : wholeTh lo hi (.int i) = false := by simp only [wholeTh, Bool.not_eq_true _ ▸ c, Bool.false_and]
      rw [e] at q
      exact q
  | bl b => exact iteT ⟨_, rfl, _, _, .bl b, rfl, ht, (by simp), _, rfl, _, rfl, iteF q⟩
  | non => exact iteF q
  | str x => exact iteF q
  | tup ts => exact iteF q
  | opq => exact iteF q
theorem ok_is_item_whole (F : Fun K "is_item_whole" "is_item_whole" s_is_item_whole f fd) (c : Cn mg) (g_is_whole : Fn P w K mg base 1 "is_whole" ["thing", "low", "high"] (spWhole K)) : FnOk P w K mg base CX0 2 f fd ["thing"] (spW1 K (-1000000000000000000) 1000000000000000000) := by
  refine F.ok sc_is_item_whole (fun vs H Q E h => ?_) (fun cdv A outer s H vs Q E hr h => ?_)
  · obtain ⟨v, t, rfl, _⟩ := h
    rfl
  obtain ⟨v, t, rfl, ht, q⟩ := h
  refine ⟨_, (@pss_one _ _ _ (@ps_ret _ _ _ _ (@pe_callF _ _ _ _ _ _ _ _ _ _ g_is_whole (hr.mono (by omega)) rfl (@pa_cons _ _ _ _ _ (pv 0) (@pa_cons _ _ _ _ _ (@pe_un _ _ _ _ _ _ un_neg (@pe_globN _ _ _ _ rfl c.GREATEST_WHOLE (by decide))) (@pa_cons _ _ _ _ _ (@pe_globN _ _ _ _ rfl c.GREATEST_WHOLE (by decide)) pa_nil rfl) rfl) rfl) (by decide) rfl rfl))), ?_⟩
  exact ⟨_, rfl, _, rfl, v, t, _, _, rfl, ht, q⟩
theorem ok_is_number (F : Fun K "is_number" "is_number" s_is_number f fd) (c : Cn mg) (g_is_whole : Fn P w K mg base 1 "is_whole" ["thing", "low", "high"] (spWhole K)) : FnOk P w K mg base CX0 2 f fd ["thing"] (spW1 K 1 999) := by
  refine F.ok sc_is_number (fun vs H Q E h => ?_) (fun cdv A outer s H vs Q E hr h => ?_)
  · obtain ⟨v, t, rfl, _⟩ := h
    rfl
  obtain ⟨v, t, rfl, ht, q⟩ := h
  refine ⟨_, (@pss_one _ _ _ (@ps_ret _ _ _ _ (@pe_callF _ _ _ _ _ _ _ _ _ _ g_is_whole (hr.mono (by omega)) rfl (@pa_cons _ _ _ _ _ (pv 0) (@pa_cons _ _ _ _ _ pe_int (@pa_cons _ _ _ _ _ (@pe_globN _ _ _ _ rfl c.GREATEST_NUMBER (by decide)) pa_nil rfl) rfl) rfl) (by decide) rfl rfl))), ?_⟩
  exact ⟨_, rfl, v, t, _, _, rfl, ht, q⟩
theorem ok_is_name (F : Fun K "is_name" "is_name" s_is_name f fd) (m : Bn mg) (c : Cn mg) : FnOk P w K mg base CX0 1 f fd ["thing"] (spName K) := by
  refine F.ok sc_is_name (fun vs H Q E h => ?_) (fun cdv A outer s H vs Q E hr h => ?_)
  · obtain ⟨v, t, rfl, _⟩ := h
    rfl
  obtain ⟨v, t, rfl, ht, gd, q⟩ := h
  refine ⟨_, (@pss_cons _ _ _ _ _ (@ps_if _ _ _ _ _ _ _ _ (@PW.pt _ _ _ (@pw_or _ _ _ _ _ _ _ (@pt_not _ _ _ _ (@pt_val _ _ _ (@pe_callB _ _ _ _ _ _ _ _ _ call_isiTh rfl m.isinstance b_isinstance (@pa_cons _ _ _ _ _ (pv 0) (@pa_cons _ _ _ _ _ (@pe_bltnT _ _ _ _ rfl m.str b_str (by decide) (by decide)) pa_nil rfl) rfl) (by decide) (by decide) rfl rfl) (by intro _; rfl))) (@pw_or1 _ _ _ _ (@pt_not _ _ _ _ (@pt_chain _ _ _ _ _ _ _ _ _ _ _ _ op_le op_le pe_int (@pe_callB _ _ _ _ _ _ _ _ _ call_len_str rfl m.len b_len (@pa_cons _ _ _ _ _ (pv 0) pa_nil rfl) (by decide) (by decide) rfl rfl) (@pe_globN _ _ _ _ rfl c.LONGEST_NAME (by decide)) (by first | rfl | decide | (intro _; rfl) | exact .inl rfl | exact .inr rfl | assumption)))))) (@pss_one _ _ _ (@ps_ret _ _ _ _ pe_bl)) pss_nil) (@pss_one _ _ _ (@ps_ret _ _ _ _ (@pe_callB _ _ _ _ _ _ _ _ _ (call_allB rfl) rfl m.all b_all (@pa_cons _ _ _ _ _ (@pe_compI _ N_is_name (defScope s_is_name) ["sign"] [none] _ _ _ _ _ _ _ _ _ _ rfl (@pi_str _ _ _ _ (pv 0)) ⟨rfl, rfl, by decide +kernel, by decide +kernel⟩ (fun _ _ _ =>  (@pg_nameI _ 0 _ _ (show List.Nodup (["sign"] : List Str) from by decide +kernel) rfl (Or.inl rfl) (by first | exact .inl rfl | exact .inr rfl))) (fun _ _ _ =>  pts_nil) (fun _ _ _ =>  (@pe_cmpR _ _ _ _ _ _ _ _ op_in_str (pv 0) (@pe_globS _ _ _ _ rfl c.LETTERS (by decide)) rfl)) (by first | rfl | decide | (intro _; rfl) | exact .inl rfl | exact .inr rfl | assumption)) pa_nil rfl) (by decide) (by decide) rfl rfl)))), ?_⟩
  refine ⟨_, rfl, _, _, t, rfl, ht, (by simp), _, rfl, ?_⟩
  cases t with
  | str x =>
    cases (show v = .str x from ht)
    refine iteF ⟨_, rfl, x, rfl, Nat.le_trans gd.2 (by decide), _, _, rfl, rfl, _, rfl, ?_⟩
    refine ite2 (fun c1 => ?_) (fun c1 => ?_)
    · refine ⟨_, _, rfl, rfl, _, rfl, ?_⟩
      by_cases c2 : (x.length : Int) ≤ 8
      · refine iteN (by rw [decide_eq_true c2]; rfl) ?_
        refine ⟨_, rfl, x, rfl, fun D fp sx hD => ?_⟩
        refine compB_str (p := fun ch => within ch LET) (Nat.le_trans gd.2 (by decide)) hD (fun ch H5 Q5 mc s5 q5 => ⟨_, rfl, _, _, rfl, rfl, q5 H5 (Same.refl H5)⟩) fun H6 s6 h6 => ⟨D, _, rfl, SqL.of h6, ?_⟩
        have e : nameTh (.str x) = (x.cps.toList.map fun ch => within ch LET).all id := by
          have a1 : (1 : Int) ≤ x.length := of_decide_eq_true c1
          show (decide (1 ≤ x.length) && decide (x.length ≤ 8) && x.cps.toList.all inL) = _
          rw [decide_eq_true (show 1 ≤ x.length by omega), decide_eq_true (show x.length ≤ 8 by omega), List.all_map]
          rfl
        rw [← e]
        exact q H6 s6
      · refine iteY (by rw [decide_eq_false c2]; rfl) ?_
        have e : nameTh (.str x) = false := by
          show (decide (1 ≤ x.length) && decide (x.length ≤ 8) && x.cps.toList.all inL) = _
          rw [decide_eq_false (show ¬ x.length ≤ 8 by omega), Bool.and_false, Bool.false_and]
        rw [← e]
        exact q H (Same.refl H)
    · refine ⟨_, rfl, iteT ?_⟩
      have e : nameTh (.str x) = false := by
        have a1 : ¬ (1 : Int) ≤ x.length := fun z => c1 (decide_eq_true z)
        show (decide (1 ≤ x.length) && decide (x.length ≤ 8) && x.cps.toList.all inL) = _
        rw [decide_eq_false (show ¬ 1 ≤ x.length by omega), Bool.false_and, Bool.false_and]
      rw [← e]
      exact q H (Same.refl H)
  | bl b => exact iteT (iteT (q H (Same.refl H)))
  | non => exact iteT (iteT (q H (Same.refl H)))
  | int x => exact iteT (iteT (q H (Same.refl H)))
  | tup ts => exact iteT (iteT (q H (Same.refl H)))
  | opq => exact iteT (iteT (q H (Same.refl H)))
theorem ok_law_whole (F : Fun K "_law_whole" "_law_whole" s_law_whole f fd) (m : Bn mg) : FnOk P w K mg base CX0 1 f fd ["_law_thing", "_law_low", "_law_high"] (spWhole K) := by
  refine F.ok sc_law_whole (fun vs H Q E h => ?_) (fun cdv A outer s H vs Q E hr h => ?_)
  · obtain ⟨v, t, lo, hi, rfl, _⟩ := h
    rfl
  obtain ⟨v, t, lo, hi, rfl, ht, q⟩ := h
  refine ⟨_, (@pss_one _ _ _ (@ps_ret _ _ _ _ (@pe_and _ _ _ _ _ _ _ (@pe_callB _ _ _ _ _ _ _ _ _ call_isiTh rfl m.isinstance b_isinstance (@pa_cons _ _ _ _ _ (pv 0) (@pa_cons _ _ _ _ _ (@pe_bltnT _ _ _ _ rfl m.int b_int (by decide) (by decide)) pa_nil rfl) rfl) (by decide) (by decide) rfl rfl) (@pe_and _ _ _ _ _ _ _ (@pe_not _ _ _ _ (@pe_callB _ _ _ _ _ _ _ _ _ call_isiTh rfl m.isinstance b_isinstance (@pa_cons _ _ _ _ _ (pv 0) (@pa_cons _ _ _ _ _ (@pe_bltnT _ _ _ _ rfl m.bool b_bool (by decide) (by decide)) pa_nil rfl) rfl) (by decide) (by decide) rfl rfl)) (@pe_one _ _ _ _ _ (@pe_chain _ _ _ _ _ _ _ _ _ _ _ _ op_le op_le (pv 1) (pv 0) (pv 2) (by first | rfl | decide | (intro _; rfl) | exact .inl rfl | exact .inr rfl | assumption))))))), ?_⟩
  refine ⟨_, rfl, _, _, t, rfl, ht, (by simp), _, rfl, ?_⟩
  cases t with
  | int i =>
    cases (show v = .int i from ht)
    refine iteT ⟨_, rfl, _, _, .int i, rfl, ht, (by simp), _, rfl, _, rfl, iteT ?_⟩
    refine ⟨_, rfl, _, rfl, _, _, rfl, rfl, _, rfl, ?_⟩
    refine ite2 (fun c => ?_) (fun c => ?_)
    · refine ⟨_, rfl, _, _, rfl, rfl, ?_⟩
      have e : wholeTh lo hi (.int i) = decide (i ≤ hi) := by simp only [wholeTh, c, Bool.true_and]
      rw [e] at q
      exact q
    · have e : wholeTh lo hi (.int i) = false := by simp only [wholeTh, Bool.not_eq_true _ ▸ c, Bool.false_and]
      rw [e] at q
      exact q
  | bl b => exact iteT ⟨_, rfl, _, _, .bl b, rfl, ht, (by simp), _, rfl, _, rfl, iteF q⟩
  | non => exact iteF q
  | str x => exact iteF q
  | tup ts => exact iteF q
  | opq => exact iteF q
theorem ok_law_is_name (F : Fun K "_law_is_name" "_law_is_name" s_law_is_name f fd) (m : Bn mg) : FnOk P w K mg base CX0 1 f fd ["_law_thing"] (spName K) := by
  refine F.ok sc_law_is_name (fun vs H Q E h => ?_) (fun cdv A outer s H vs Q E hr h => ?_)
  · obtain ⟨v, t, rfl, _⟩ := h
    rfl
  obtain ⟨v, t, rfl, ht, gd, q⟩ := h
  refine ⟨_, (@pss_cons _ _ _ _ _ (@ps_if _ _ _ _ _ _ _ _ (@PW.pt _ _ _ (@pw_or _ _ _ _ _ _ _ (@pt_not _ _ _ _ (@pt_val _ _ _ (@pe_callB _ _ _ _ _ _ _ _ _ call_isiTh rfl m.isinstance b_isinstance (@pa_cons _ _ _ _ _ (pv 0) (@pa_cons _ _ _ _ _ (@pe_bltnT _ _ _ _ rfl m.str b_str (by decide) (by decide)) pa_nil rfl) rfl) (by decide) (by decide) rfl rfl) (by intro _; rfl))) (@pw_or1 _ _ _ _ (@pt_not _ _ _ _ (@pt_chain _ _ _ _ _ _ _ _ _ _ _ _ op_le op_le pe_int (@pe_callB _ _ _ _ _ _ _ _ _ call_len_str rfl m.len b_len (@pa_cons _ _ _ _ _ (pv 0) pa_nil rfl) (by decide) (by decide) rfl rfl) pe_int (by first | rfl | decide | (intro _; rfl) | exact .inl rfl | exact .inr rfl | assumption)))))) (@pss_one _ _ _ (@ps_ret _ _ _ _ pe_bl)) pss_nil) (@pss_one _ _ _ (@ps_ret _ _ _ _ (@pe_callB _ _ _ _ _ _ _ _ _ (call_allB rfl) rfl m.all b_all (@pa_cons _ _ _ _ _ (@pe_compI _ N_law_is_name (defScope s_law_is_name) ["_law_sign"] [none] _ _ _ _ _ _ _ _ _ _ rfl (@pi_str _ _ _ _ (pv 0)) ⟨rfl, rfl, by decide +kernel, by decide +kernel⟩ (fun _ _ _ =>  (@pg_nameI _ 0 _ _ (show List.Nodup (["_law_sign"] : List Str) from by decide +kernel) rfl (Or.inl rfl) (by first | exact .inl rfl | exact .inr rfl))) (fun _ _ _ =>  pts_nil) (fun _ _ _ =>  (@pe_cmpR _ _ _ _ _ _ _ _ op_in_str (pv 0) pe_str rfl)) (by first | rfl | decide | (intro _; rfl) | exact .inl rfl | exact .inr rfl | assumption)) pa_nil rfl) (by decide) (by decide) rfl rfl)))), ?_⟩
  refine ⟨_, rfl, _, _, t, rfl, ht, (by simp), _, rfl, ?_⟩
  cases t with
  | str x =>
    cases (show v = .str x from ht)
    refine iteF ⟨_, rfl, x, rfl, Nat.le_trans gd.2 (by decide), _, _, rfl, rfl, _, rfl, ?_⟩
    refine ite2 (fun c1 => ?_) (fun c1 => ?_)
    · refine ⟨_, _, rfl, rfl, _, rfl, ?_⟩
      by_cases c2 : (x.length : Int) ≤ 8
      · refine iteN (by rw [decide_eq_true c2]; rfl) ?_
        refine ⟨_, rfl, x, rfl, fun D fp sx hD => ?_⟩
        refine compB_str (p := fun ch => within ch LET) (Nat.le_trans gd.2 (by decide)) hD (fun ch H5 Q5 mc s5 q5 => ⟨_, rfl, _, _, rfl, rfl, q5 H5 (Same.refl H5)⟩) fun H6 s6 h6 => ⟨D, _, rfl, SqL.of h6, ?_⟩
        have e : nameTh (.str x) = (x.cps.toList.map fun ch => within ch LET).all id := by
          have a1 : (1 : Int) ≤ x.length := of_decide_eq_true c1
          show (decide (1 ≤ x.length) && decide (x.length ≤ 8) && x.cps.toList.all inL) = _
          rw [decide_eq_true (show 1 ≤ x.length by omega), decide_eq_true (show x.length ≤ 8 by omega), List.all_map]
          rfl
        rw [← e]
        exact q H6 s6
      · refine iteY (by rw [decide_eq_false c2]; rfl) ?_
        have e : nameTh (.str x) = false := by
          show (decide (1 ≤ x.length) && decide (x.length ≤ 8) && x.cps.toList.all inL) = _
          rw [decide_eq_false (show ¬ x.length ≤ 8 by omega), Bool.and_false, Bool.false_and]
        rw [← e]
        exact q H (Same.refl H)
    · refine ⟨_, rfl, iteT ?_⟩
      have e : nameTh (.str x) = false := by
        have a1 : ¬ (1 : Int) ≤ x.length := fun z => c1 (decide_eq_true z)
        show (decide (1 ≤ x.length) && decide (x.length ≤ 8) && x.cps.toList.all inL) = _
        rw [decide_eq_false (show ¬ 1 ≤ x.length by omega), Bool.false_and, Bool.false_and]
      rw [← e]
      exact q H (Same.refl H)
  | bl b => exact iteT (iteT (q H (Same.refl H)))
  | non => exact iteT (iteT (q H (Same.refl H)))
  | int x => exact iteT (iteT (q H (Same.refl H)))
  | tup ts => exact iteT (iteT (q H (Same.refl H)))
  | opq => exact iteT (iteT (q H (Same.refl H)))
theorem ok_rises (F : Fun K "rises" "rises" s_rises f fd) (m : Bn mg) : FnOk P w K mg base CX0 1 f fd ["things"] (spRises K) := by
  refine F.ok sc_rises (fun vs H Q E h => ?_) (fun cdv A outer s H vs Q E hr h => ?_)
  · obtain ⟨a, ts, ws, rfl, _⟩ := h
    rfl
  obtain ⟨a, ns, ws, rfl, ha, at', hl, q⟩ := h
  have hl : (ns.map Th.int).length ≤ 1000000 := by rw [List.length_map]; exact hl
  have hk : ∃ ns0 : List Int, ns.map Th.int = ns0.map Th.int := ⟨ns, rfl⟩
  revert q hk hl at'
  generalize ns.map Th.int = ts
  intro at' q hl hk
  refine ⟨_, (@pss_one _ _ _ (@ps_ret _ _ _ _ (@pe_callB _ _ _ _ _ _ _ _ _ (call_allB rfl) rfl m.all b_all (@pa_cons _ _ _ _ _ (@pe_compI _ N_rises (defScope s_rises) ["one", "other"] [none, none] _ _ _ _ _ _ _ _ _ _ rfl (@pi_zip _ _ _ _ _ _ _ _ _ rfl m.zip (@pa_cons _ _ _ _ _ (pv 0) (@pa_cons _ _ _ _ _ (@pe_slice _ _ _ _ _ _ _ _ _ _ sl_list (pv 0) (@po_some _ _ _ pe_int) (@po_none _)) pa_nil rfl) rfl) rfl rfl) ⟨rfl, rfl, by decide +kernel, by decide +kernel⟩ (fun _ _ _ =>  (@pg_tup _ _ _ _ _ _ rfl (@pgs_cons _ _ _ _ _ (@pg_nameI _ 0 _ _ (show List.Nodup (["one", "other"] : List Str) from by decide +kernel) rfl (Or.inl rfl) (by first | exact .inl rfl | exact .inr rfl)) (@pgs_cons _ _ _ _ _ (@pg_nameI _ 1 _ _ (show List.Nodup (["one", "other"] : List Str) from by decide +kernel) rfl (Or.inl rfl) (by first | exact .inl rfl | exact .inr rfl)) pgs_nil (by first | rfl | decide | (intro _; rfl) | exact .inl rfl | exact .inr rfl | assumption)) (by first | rfl | decide | (intro _; rfl) | exact .inl rfl | exact .inr rfl | assumption)) (by first | rfl | decide | (intro _; rfl) | exact .inl rfl | exact .inr rfl | assumption) (by first | rfl | decide | (intro _; rfl) | exact .inl rfl | exact .inr rfl | assumption))) (fun _ _ _ =>  pts_nil) (fun _ _ _ =>  (@pe_cmpR _ _ _ _ _ _ _ _ op_lt (pv 0) (pv 1) (nomark _))) (by first | rfl | decide | (intro _; rfl) | exact .inl rfl | exact .inr rfl | assumption)) pa_nil rfl) (by decide) (by decide) rfl rfl))), ?_⟩
  refine ⟨_, rfl, _, rfl, _, rfl, a, ws, rfl, ha, fun l hlf => ?_⟩
  have cut : cutV ws (some 1) none = ws.drop 1 := by
    unfold cutV
    have e2 : HT.sIx ws.length ws.length none = ws.length := rfl
    have e1 : HT.sIx ws.length 0 (some 1) = min 1 ws.length := by simp [HT.sIx]
    rw [e1, e2]
    cases ws with
    | nil => rfl
    | cons x r => simp
  rw [cut]
  have s0 : Same H (upd H l (.lst (ws.drop 1))) := Same.lay hlf
  refine ⟨a, l, rfl, ⟨ws, s0.seq ha⟩, ⟨_, SqL.of upd_same⟩, fun D fp sx hD => ?_⟩
  have hD0 : H D = none := s0.free hD
  have lw := at'.length
  have lz : ∀ i, ((List.zipWith ltTh ts (ts.drop 1)).take i).length ≤ 1000000 := fun i => by
    rw [List.length_take, List.length_zipWith]; omega
  refine comp_zip (K := K) (xs := ws) (ys := ws.drop 1) (fun i zs σ H5 => (∃ o1 o2, σ = [o1, o2]) ∧ zs = ((List.zipWith ltTh ts (ts.drop 1)).take i).map V.bl ∧ Same (upd H l (.lst (ws.drop 1))) H5 ∧ H5 D = some (.lst zs))
    ⟨⟨_, _, rfl⟩, rfl, (Same.refl _).put hD, upd_same⟩ ?_ ?_ ?_
  · rintro i zs σ H5 hi ⟨_, _, s5, h5⟩
    exact ⟨(s0.trans s5).seq ha, SqL.of (s5 _ _ upd_same), h5⟩
  · rintro i x y p zs σ H5 hx hy ⟨⟨o1, o2, rfl⟩, rfl, s5, h5⟩ hp
    obtain ⟨tx, ex, ix⟩ := at'.got hx
    obtain ⟨ty, ey, iy⟩ := (AreTh.drop 1 at').got hy
    have hz : (List.zipWith ltTh ts (ts.drop 1))[i]? = some (ltTh tx ty) := by rw [List.getElem?_zipWith, ex, ey]
    have s6 : Same H5 (upd H5 p (.tup [x, y])) := Same.lay hp
    refine ⟨p, _, rfl, SqT.of upd_same, rfl, _, _, rfl, _, _, rfl, rfl, ?_⟩
    refine alwaysT ?_
    refine ⟨_, rfl, _, rfl, ?_⟩
    have fin : upd H5 p (.tup [x, y]) D = some (.lst (((List.zipWith ltTh ts (ts.drop 1)).take i).map V.bl)) ∧ (((List.zipWith ltTh ts (ts.drop 1)).take i).map V.bl).length < sizeLine ∧ (∃ o1 o2, ([some x, some y] : L2.St) = [o1, o2]) ∧ ((List.zipWith ltTh ts (ts.drop 1)).take i).map V.bl ++ [V.bl (ltTh tx ty)] = ((List.zipWith ltTh ts (ts.drop 1)).take (i + 1)).map V.bl ∧
        Same (upd H l (.lst (ws.drop 1))) (upd (upd H5 p (.tup [x, y])) D (.lst (((List.zipWith ltTh ts (ts.drop 1)).take i).map V.bl ++ [V.bl (ltTh tx ty)]))) ∧ upd (upd H5 p (.tup [x, y])) D (.lst (((List.zipWith ltTh ts (ts.drop 1)).take i).map V.bl ++ [V.bl (ltTh tx ty)])) D = some (.lst (((List.zipWith ltTh ts (ts.drop 1)).take i).map V.bl ++ [V.bl (ltTh tx ty)])) := by
      refine ⟨s6 _ _ h5, ?_, ⟨_, _, rfl⟩, ?_, (s5.trans s6).put hD, upd_same⟩
      · rw [List.length_map]; exact Nat.lt_of_le_of_lt (lz i) (by decide)
      · rw [take_more hz, List.map_append]; rfl
    obtain ⟨ns, rfl⟩ := hk
    · rw [← List.map_drop, List.getElem?_map] at ey
      rw [List.getElem?_map] at ex
      obtain ⟨x1, _, rfl⟩ := Option.map_eq_some_iff.mp ex
      obtain ⟨y1, _, rfl⟩ := Option.map_eq_some_iff.mp ey
      cases (show x = .int x1 from ix)
      cases (show y = .int y1 from iy)
      exact ⟨_, _, rfl, rfl, fin⟩
  · rintro zs σ H5 ⟨_, rfl, s5, h5⟩
    refine ⟨D, _, rfl, SqL.of h5, ?_⟩
    have e : (List.zipWith ltTh ts (ts.drop 1)).take (min ws.length (ws.drop 1).length) = List.zipWith ltTh ts (ts.drop 1) := by
      rw [List.take_of_length_le]
      rw [List.length_zipWith, List.length_drop, List.length_drop, lw]
      exact Nat.le_refl _
    rw [e]
    exact q H5 (s0.trans s5)
theorem ok_risesT (F : Fun K "rises" "rises" s_rises f fd) (m : Bn mg) : FnOk P w K mg base CX0 1 f fd ["things"] (spRisesT K) := by
  refine F.ok sc_rises (fun vs H Q E h => ?_) (fun cdv A outer s H vs Q E hr h => ?_)
  · obtain ⟨a, ts, ws, rfl, _⟩ := h
    rfl
  obtain ⟨a, ns, ws, rfl, ha, at', hl, q⟩ := h
  have hl : (ns.map Th.int).length ≤ 1000000 := by rw [List.length_map]; exact hl
  have hk : ∃ ns0 : List Int, ns.map Th.int = ns0.map Th.int := ⟨ns, rfl⟩
  revert q hk hl at'
  generalize ns.map Th.int = ts
  intro at' q hl hk
  refine ⟨_, (@pss_one _ _ _ (@ps_ret _ _ _ _ (@pe_callB _ _ _ _ _ _ _ _ _ (call_allB rfl) rfl m.all b_all (@pa_cons _ _ _ _ _ (@pe_compI _ N_rises (defScope s_rises) ["one", "other"] [none, none] _ _ _ _ _ _ _ _ _ _ rfl (@pi_zipT _ _ _ _ _ _ _ _ _ rfl m.zip (@pa_cons _ _ _ _ _ (pv 0) (@pa_cons _ _ _ _ _ (@pe_slice _ _ _ _ _ _ _ _ _ _ sl_tupG (pv 0) (@po_some _ _ _ pe_int) (@po_none _)) pa_nil rfl) rfl) rfl rfl) ⟨rfl, rfl, by decide +kernel, by decide +kernel⟩ (fun _ _ _ =>  (@pg_tup _ _ _ _ _ _ rfl (@pgs_cons _ _ _ _ _ (@pg_nameI _ 0 _ _ (show List.Nodup (["one", "other"] : List Str) from by decide +kernel) rfl (Or.inl rfl) (by first | exact .inl rfl | exact .inr rfl)) (@pgs_cons _ _ _ _ _ (@pg_nameI _ 1 _ _ (show List.Nodup (["one", "other"] : List Str) from by decide +kernel) rfl (Or.inl rfl) (by first | exact .inl rfl | exact .inr rfl)) pgs_nil (by first | rfl | decide | (intro _; rfl) | exact .inl rfl | exact .inr rfl | assumption)) (by first | rfl | decide | (intro _; rfl) | exact .inl rfl | exact .inr rfl | assumption)) (by first | rfl | decide | (intro _; rfl) | exact .inl rfl | exact .inr rfl | assumption) (by first | rfl | decide | (intro _; rfl) | exact .inl rfl | exact .inr rfl | assumption))) (fun _ _ _ =>  pts_nil) (fun _ _ _ =>  (@pe_cmpR _ _ _ _ _ _ _ _ op_lt (pv 0) (pv 1) (nomark _))) (by first | rfl | decide | (intro _; rfl) | exact .inl rfl | exact .inr rfl | assumption)) pa_nil rfl) (by decide) (by decide) rfl rfl))), ?_⟩
  refine ⟨_, rfl, _, rfl, _, rfl, a, ws, rfl, ha, fun l H0 s0 hl0 => ?_⟩
  have cut : cutV ws (some 1) none = ws.drop 1 := by
    unfold cutV
    have e2 : HT.sIx ws.length ws.length none = ws.length := rfl
    have e1 : HT.sIx ws.length 0 (some 1) = min 1 ws.length := by simp [HT.sIx]
    rw [e1, e2]
    cases ws with
    | nil => rfl
    | cons x r => simp
  rw [cut] at hl0
  refine ⟨a, l, rfl, ⟨ws, s0.up _ _ ha⟩, ⟨_, hl0⟩, fun D fp sx hD => ?_⟩
  have hD0 : H D = none := s0.free hD
  have lw := at'.length
  have lz : ∀ i, ((List.zipWith ltTh ts (ts.drop 1)).take i).length ≤ 1000000 := fun i => by
    rw [List.length_take, List.length_zipWith]; omega
  refine comp_zipT (K := K) (xs := ws) (ys := ws.drop 1) (fun i zs σ H5 => (∃ o1 o2, σ = [o1, o2]) ∧ zs = ((List.zipWith ltTh ts (ts.drop 1)).take i).map V.bl ∧ Same H0 H5 ∧ H5 D = some (.lst zs))
    ⟨⟨_, _, rfl⟩, rfl, (Same.refl _).put hD, upd_same⟩ ?_ ?_ ?_
  · rintro i zs σ H5 hi ⟨_, _, s5, h5⟩
    exact ⟨(s0.trans s5).up _ _ ha, s5.up _ _ hl0, h5⟩
  · rintro i x y p zs σ H5 hx hy ⟨⟨o1, o2, rfl⟩, rfl, s5, h5⟩ hp
    obtain ⟨tx, ex, ix⟩ := at'.got hx
    obtain ⟨ty, ey, iy⟩ := (AreTh.drop 1 at').got hy
    have hz : (List.zipWith ltTh ts (ts.drop 1))[i]? = some (ltTh tx ty) := by rw [List.getElem?_zipWith, ex, ey]
    have s6 : Same H5 (upd H5 p (.tup [x, y])) := Same.lay hp
    refine ⟨p, _, rfl, SqT.of upd_same, rfl, _, _, rfl, _, _, rfl, rfl, ?_⟩
    refine alwaysT ?_
    refine ⟨_, rfl, _, rfl, ?_⟩
    have fin : upd H5 p (.tup [x, y]) D = some (.lst (((List.zipWith ltTh ts (ts.drop 1)).take i).map V.bl)) ∧ (((List.zipWith ltTh ts (ts.drop 1)).take i).map V.bl).length < sizeLine ∧ (∃ o1 o2, ([some x, some y] : L2.St) = [o1, o2]) ∧ ((List.zipWith ltTh ts (ts.drop 1)).take i).map V.bl ++ [V.bl (ltTh tx ty)] = ((List.zipWith ltTh ts (ts.drop 1)).take (i + 1)).map V.bl ∧
        Same H0 (upd (upd H5 p (.tup [x, y])) D (.lst (((List.zipWith ltTh ts (ts.drop 1)).take i).map V.bl ++ [V.bl (ltTh tx ty)]))) ∧ upd (upd H5 p (.tup [x, y])) D (.lst (((List.zipWith ltTh ts (ts.drop 1)).take i).map V.bl ++ [V.bl (ltTh tx ty)])) D = some (.lst (((List.zipWith ltTh ts (ts.drop 1)).take i).map V.bl ++ [V.bl (ltTh tx ty)])) := by
      refine ⟨s6 _ _ h5, ?_, ⟨_, _, rfl⟩, ?_, (s5.trans s6).put hD, upd_same⟩
      · rw [List.length_map]; exact Nat.lt_of_le_of_lt (lz i) (by decide)
      · rw [take_more hz, List.map_append]; rfl
    obtain ⟨ns, rfl⟩ := hk
    · rw [← List.map_drop, List.getElem?_map] at ey
      rw [List.getElem?_map] at ex
      obtain ⟨x1, _, rfl⟩ := Option.map_eq_some_iff.mp ex
      obtain ⟨y1, _, rfl⟩ := Option.map_eq_some_iff.mp ey
      cases (show x = .int x1 from ix)
      cases (show y = .int y1 from iy)
      exact ⟨_, _, rfl, rfl, fin⟩
  · rintro zs σ H5 ⟨_, rfl, s5, h5⟩
    refine ⟨D, _, rfl, SqL.of h5, ?_⟩
    have e : (List.zipWith ltTh ts (ts.drop 1)).take (min ws.length (ws.drop 1).length) = List.zipWith ltTh ts (ts.drop 1) := by
      rw [List.take_of_length_le]
      rw [List.length_zipWith, List.length_drop, List.length_drop, lw]
      exact Nat.le_refl _
    rw [e]
    exact q H5 (s0.trans s5)
end
end K19
namespace K19
open PySem PySem.Spec PyProof.Rows L2 K01
abbrev s_is_short_tuple : Stmt := top 18
abbrev N_is_short_tuple : List Str := ["thing"]
theorem sc_is_short_tuple : FnScope N_is_short_tuple ["thing"] (defScope s_is_short_tuple) := ⟨rfl, rfl, rfl, by decide +kernel, rfl, by decide +kernel, by decide +kernel⟩
abbrev s_is_default : Stmt := top 20
abbrev N_is_default : List Str := ["thing"]
theorem sc_is_default : FnScope N_is_default ["thing"] (defScope s_is_default) := ⟨rfl, rfl, rfl, by decide +kernel, rfl, by decide +kernel, by decide +kernel⟩
abbrev s_is_arm : Stmt := top 21
abbrev N_is_arm : List Str := ["thing"]
theorem sc_is_arm : FnScope N_is_arm ["thing"] (defScope s_is_arm) := ⟨rfl, rfl, rfl, by decide +kernel, rfl, by decide +kernel, by decide +kernel⟩
abbrev s_is_field : Stmt := top 19
abbrev N_is_field : List Str := ["thing"]
theorem sc_is_field : FnScope N_is_field ["thing"] (defScope s_is_field) := ⟨rfl, rfl, rfl, by decide +kernel, rfl, by decide +kernel, by decide +kernel⟩
abbrev s_are_bounds : Stmt := top 15
abbrev N_are_bounds : List Str := ["low", "high"]
theorem sc_are_bounds : FnScope N_are_bounds ["low", "high"] (defScope s_are_bounds) := ⟨rfl, rfl, rfl, by decide +kernel, rfl, by decide +kernel, by decide +kernel⟩
def shortTh : Th → Bool
  | .tup ts => decide (ts.length ≤ 8)
  | _ => false
def defTh : Th → Bool
  | .tup ts => decide (ts.length ≤ 1)
  | _ => false
def armTh : Th → Bool
  | .tup [a, b, c] => wholeTh 1 999 a && nameTh b && nameTh c
  | _ => false
def fieldTh : Th → Bool
  | .tup [a, b, c, d] => armTh (.tup [a, b, c]) && defTh d
  | _ => false
def leTh : Th → Th → Bool
  | .int i, .int j => decide (i ≤ j)
  | _, _ => false
def ALL : Int := 1000000000000000000
def boundsTh (a b : Th) : Bool := wholeTh (-ALL) ALL a && wholeTh (-ALL) ALL b && leTh a b
def spB1 (K : PySem.W.Frag) (p : Th → Bool) : Sp := fun vs H Q _ => ∃ v t, vs = [v] ∧ IsTh K H t v ∧ gdT t ∧ ∀ H', Same H H' → Q (.bl (p t)) H'
def spB2 (K : PySem.W.Frag) (p : Th → Th → Bool) : Sp := fun vs H Q _ => ∃ u v s t, vs = [u, v] ∧ IsTh K H s u ∧ IsTh K H t v ∧ gdT s ∧ gdT t ∧ ∀ H', Same H H' → Q (.bl (p s t)) H'
theorem nf {b : Bool} (h : ¬ b = true) : b = false := by simpa using h
theorem at0 {a : V} {l : List V} : atI (a :: l) 0 = some a := atI_nat (xs := a :: l) (j := 0) rfl
theorem at1 {a b : V} {l : List V} : atI (a :: b :: l) 1 = some b := atI_nat (xs := a :: b :: l) (j := 1) rfl
theorem at2 {a b c : V} {l : List V} : atI (a :: b :: c :: l) 2 = some c := atI_nat (xs := a :: b :: c :: l) (j := 2) rfl
theorem at3 {a b c d : V} {l : List V} : atI (a :: b :: c :: d :: l) 3 = some d := atI_nat (xs := a :: b :: c :: d :: l) (j := 3) rfl
theorem are3 {K : PySem.W.Frag} {H : Hp} {a b c : Th} {ws : List V} (h : AreTh K H [a, b, c] ws) : ∃ x y z, ws = [x, y, z] ∧ IsTh K H a x ∧ IsTh K H b y ∧ IsTh K H c z := by
  obtain ⟨x, r, rfl, i1, y, r2, rfl, i2, z, r3, rfl, i3, e⟩ := h
  cases (show r3 = [] from e)
  exact ⟨x, y, z, rfl, i1, i2, i3⟩
theorem are4 {K : PySem.W.Frag} {H : Hp} {a b c d : Th} {ws : List V} (h : AreTh K H [a, b, c, d] ws) : ∃ x y z u, ws = [x, y, z, u] ∧ IsTh K H a x ∧ IsTh K H b y ∧ IsTh K H c z ∧ IsTh K H d u := by
  obtain ⟨x, r, rfl, i1, y, r2, rfl, i2, z, r3, rfl, i3, u, r4, rfl, i4, e⟩ := h
  cases (show r4 = [] from e)
  exact ⟨x, y, z, u, rfl, i1, i2, i3, i4⟩
theorem len3 {α : Type} {l : List α} (h : l.length = 3) : ∃ a b c, l = [a, b, c] := by
  match l, h with
  | [a, b, c], _ => exact ⟨a, b, c, rfl⟩
theorem len4 {α : Type} {l : List α} (h : l.length = 4) : ∃ a b c d, l = [a, b, c, d] := by
  match l, h with
  | [a, b, c, d], _ => exact ⟨a, b, c, d, rfl⟩
theorem arm_len {ts : List Th} (h : ts.length ≠ 3) : armTh (.tup ts) = false := by
  unfold armTh
  split
  · rename_i e; cases e; exact absurd rfl h
  · rfl
theorem field_len {ts : List Th} (h : ts.length ≠ 4) : fieldTh (.tup ts) = false := by
  unfold fieldTh
  split
  · rename_i e; cases e; exact absurd rfl h
  · rfl
theorem ts_of {t : Th} (h : isiT "tuple" t = true) : ∃ ts, t = .tup ts := by
  cases t with
  | tup ts => exact ⟨ts, rfl⟩
  | bl _ => cases h
  | _ => cases h
section
variable {P : Program} {w : World} {K : PySem.W.Frag} {mg : Str → Option Value} {base : Heap} {f : Addr} {fd : FuncData}
theorem ok_is_short_tuple (F : Fun K "is_short_tuple" "is_short_tuple" s_is_short_tuple f fd) (m : Bn mg) (c : Cn mg) : FnOk P w K mg base CX0 1 f fd ["thing"] (spB1 K shortTh) := by
  refine F.ok sc_is_short_tuple (fun vs H Q E h => ?_) (fun cdv A outer s H vs Q E hr h => ?_)
  · obtain ⟨v, t, rfl, _⟩ := h
    rfl
  obtain ⟨v, t, rfl, ht, gd, q⟩ := h
  refine ⟨_, (@pss_one _ _ _ (@ps_ret _ _ _ _ (@pe_and _ _ _ _ _ _ _ (@pe_callB _ _ _ _ _ _ _ _ _ call_isiTh rfl m.isinstance b_isinstance (@pa_cons _ _ _ _ _ (pv 0) (@pa_cons _ _ _ _ _ (@pe_bltnT _ _ _ _ rfl m.tuple b_tuple (by decide) (by decide)) pa_nil rfl) rfl) (by decide) (by decide) rfl rfl) (@pe_one _ _ _ _ _ (@pe_cmpR _ _ _ _ _ _ _ _ op_le (@pe_callB _ _ _ _ _ _ _ _ _ call_len_seq rfl m.len b_len (@pa_cons _ _ _ _ _ (pv 0) pa_nil rfl) (by decide) (by decide) rfl rfl) (@pe_globN _ _ _ _ rfl c.MOST_FIELDS (by decide)) (nomark _)))))), ?_⟩
  refine ⟨_, rfl, _, _, t, rfl, ht, (by simp), _, rfl, ?_⟩
  cases t with
  | tup ts =>
    obtain ⟨a, ws, rfl, ha, at'⟩ := ht
    refine iteT ⟨_, rfl, a, ws, rfl, .inr ha, _, _, rfl, rfl, ?_⟩
    have e : shortTh (.tup ts) = decide ((ws.length : Int) ≤ 8) := by
      rw [← at'.length]
      show decide (ts.length ≤ 8) = _
      exact decide_eq_decide.mpr (by omega)
    have q' := q H (Same.refl H)
    rw [e] at q'
    exact q'
  | bl b => exact iteF (q H (Same.refl H))
  | non => exact iteF (q H (Same.refl H))
  | int x => exact iteF (q H (Same.refl H))
  | str x => exact iteF (q H (Same.refl H))
  | opq => exact iteF (q H (Same.refl H))
theorem ok_is_default (F : Fun K "is_default" "is_default" s_is_default f fd) (m : Bn mg) : FnOk P w K mg base CX0 1 f fd ["thing"] (spB1 K defTh) := by
  refine F.ok sc_is_default (fun vs H Q E h => ?_) (fun cdv A outer s H vs Q E hr h => ?_)
  · obtain ⟨v, t, rfl, _⟩ := h
    rfl
  obtain ⟨v, t, rfl, ht, gd, q⟩ := h
  refine ⟨_, (@pss_one _ _ _ (@ps_ret _ _ _ _ (@pe_and _ _ _ _ _ _ _ (@pe_callB _ _ _ _ _ _ _ _ _ call_isiTh rfl m.isinstance b_isinstance (@pa_cons _ _ _ _ _ (pv 0) (@pa_cons _ _ _ _ _ (@pe_bltnT _ _ _ _ rfl m.tuple b_tuple (by decide) (by decide)) pa_nil rfl) rfl) (by decide) (by decide) rfl rfl) (@pe_one _ _ _ _ _ (@pe_cmpR _ _ _ _ _ _ _ _ op_le (@pe_callB _ _ _ _ _ _ _ _ _ call_len_seq rfl m.len b_len (@pa_cons _ _ _ _ _ (pv 0) pa_nil rfl) (by decide) (by decide) rfl rfl) pe_int (nomark _)))))), ?_⟩
  refine ⟨_, rfl, _, _, t, rfl, ht, (by simp), _, rfl, ?_⟩
  cases t with
  | tup ts =>
    obtain ⟨a, ws, rfl, ha, at'⟩ := ht
    refine iteT ⟨_, rfl, a, ws, rfl, .inr ha, _, _, rfl, rfl, ?_⟩
    have e : defTh (.tup ts) = decide ((ws.length : Int) ≤ 1) := by
      rw [← at'.length]
      show decide (ts.length ≤ 1) = _
      exact decide_eq_decide.mpr (by omega)
    have q' := q H (Same.refl H)
    rw [e] at q'
    exact q'
  | bl b => exact iteF (q H (Same.refl H))
  | non => exact iteF (q H (Same.refl H))
  | int x => exact iteF (q H (Same.refl H))
  | str x => exact iteF (q H (Same.refl H))
  | opq => exact iteF (q H (Same.refl H))
theorem ok_is_arm (F : Fun K "is_arm" "is_arm" s_is_arm f fd) (m : Bn mg) (g_is_number : Fn P w K mg base 2 "is_number" ["thing"] (spW1 K 1 999)) (g_is_name : Fn P w K mg base 1 "is_name" ["thing"] (spName K)) : FnOk P w K mg base CX0 3 f fd ["thing"] (spB1 K armTh) := by
  refine F.ok sc_is_arm (fun vs H Q E h => ?_) (fun cdv A outer s H vs Q E hr h => ?_)
  · obtain ⟨v, t, rfl, _⟩ := h
    rfl
  obtain ⟨v, t, rfl, ht, gd, q⟩ := h
  refine ⟨_, (@pss_cons _ _ _ _ _ (@ps_if _ _ _ _ _ _ _ _ (@PW.pt _ _ _ (@pw_or _ _ _ _ _ _ _ (@pt_not _ _ _ _ (@pt_val _ _ _ (@pe_callB _ _ _ _ _ _ _ _ _ call_isiTh rfl m.isinstance b_isinstance (@pa_cons _ _ _ _ _ (pv 0) (@pa_cons _ _ _ _ _ (@pe_bltnT _ _ _ _ rfl m.tuple b_tuple (by decide) (by decide)) pa_nil rfl) rfl) (by decide) (by decide) rfl rfl) (by intro _; rfl))) (@pw_or1 _ _ _ _ (@pt_cmpR _ _ _ _ _ _ _ _ op_ne (@pe_callB _ _ _ _ _ _ _ _ _ call_len_seq rfl m.len b_len (@pa_cons _ _ _ _ _ (pv 0) pa_nil rfl) (by decide) (by decide) rfl rfl) pe_int (nomark _))))) (@pss_one _ _ _ (@ps_ret _ _ _ _ pe_bl)) pss_nil) (@pss_one _ _ _ (@ps_ret _ _ _ _ (@pe_and _ _ _ _ _ _ _ (@pe_callF _ _ _ _ _ _ _ _ _ _ g_is_number (hr.mono (by omega)) rfl (@pa_cons _ _ _ _ _ (@pe_ix _ _ _ _ _ _ _ ix_tup (pv 0) pe_int (fun _ _ =>  rfl)) pa_nil rfl) (by decide) rfl rfl) (@pe_and _ _ _ _ _ _ _ (@pe_callF _ _ _ _ _ _ _ _ _ _ g_is_name (hr.mono (by omega)) rfl (@pa_cons _ _ _ _ _ (@pe_ix _ _ _ _ _ _ _ ix_tup (pv 0) pe_int (fun _ _ =>  rfl)) pa_nil rfl) (by decide) rfl rfl) (@pe_one _ _ _ _ _ (@pe_callF _ _ _ _ _ _ _ _ _ _ g_is_name (hr.mono (by omega)) rfl (@pa_cons _ _ _ _ _ (@pe_ix _ _ _ _ _ _ _ ix_tup (pv 0) pe_int (fun _ _ =>  rfl)) pa_nil rfl) (by decide) rfl rfl))))))), ?_⟩
  refine ⟨_, rfl, _, _, t, rfl, ht, (by simp), _, rfl, ?_⟩
  cases t with
  | tup ts =>
    obtain ⟨a, ws, rfl, ha, at'⟩ := ht
    refine iteF ⟨_, rfl, a, ws, rfl, .inr ha, rfl, _, rfl, ?_⟩
    by_cases h3 : ts.length = 3
    · obtain ⟨t1, t2, t3, rfl⟩ := len3 h3
      obtain ⟨x, y, z, rfl, i1, i2, i3⟩ := are3 at'
      refine iteF ?_
      refine ⟨_, rfl, a, _, _, _, rfl, rfl, ha, at0, x, t1, rfl, i1, _, rfl, ?_⟩
      refine ite2 (fun c1 => ?_) (fun c1 => ?_)
      · refine ⟨_, rfl, a, _, _, _, rfl, rfl, ha, at1, y, t2, rfl, i2, gd.2.1, fun H1 s1 => ⟨_, rfl, ?_⟩⟩
        refine ite2 (fun c2 => ?_) (fun c2 => ?_)
        · refine ⟨_, rfl, a, _, _, _, rfl, rfl, s1.up _ _ ha, at2, z, t3, rfl, IsTh.up s1.upT _ _ i3, gd.2.2.1, fun H2 s2 => ?_⟩
          have e : armTh (.tup [t1, t2, t3]) = nameTh t3 := by show (_ && _ && _) = _; rw [c1, c2]; rfl
          rw [← e]
          exact q H2 (s1.trans s2)
        · have e : armTh (.tup [t1, t2, t3]) = false := by show (_ && _ && _) = _; rw [c1, nf c2]; rfl
          rw [← e]
          exact q H1 s1
      · have e : armTh (.tup [t1, t2, t3]) = false := by show (_ && _ && _) = _; rw [nf c1]; rfl
        rw [← e]
        exact q H (Same.refl H)
    · refine iteY (by
        rw [← at'.length]
        show (!decide (_ = _)) = true
        rw [decide_eq_false (fun z => h3 (by injection z with z; omega))]; rfl) ?_
      rw [← arm_len h3]
      exact q H (Same.refl H)
  | bl b => exact iteT (iteT (q H (Same.refl H)))
  | non => exact iteT (iteT (q H (Same.refl H)))
  | int x => exact iteT (iteT (q H (Same.refl H)))
  | str x => exact iteT (iteT (q H (Same.refl H)))
  | opq => exact iteT (iteT (q H (Same.refl H)))
theorem ok_is_field (F : Fun K "is_field" "is_field" s_is_field f fd) (m : Bn mg) (g_is_arm : Fn P w K mg base 3 "is_arm" ["thing"] (spB1 K armTh)) (g_is_default : Fn P w K mg base 1 "is_default" ["thing"] (spB1 K defTh)) : FnOk P w K mg base CX0 4 f fd ["thing"] (spB1 K fieldTh) := by
  refine F.ok sc_is_field (fun vs H Q E h => ?_) (fun cdv A outer s H vs Q E hr h => ?_)
  · obtain ⟨v, t, rfl, _⟩ := h
    rfl
  obtain ⟨v, t, rfl, ht, gd, q⟩ := h
  refine ⟨_, (@pss_one _ _ _ (@ps_ret _ _ _ _ (@pe_and _ _ _ _ _ _ _ (@pe_callB _ _ _ _ _ _ _ _ _ call_isiTh rfl m.isinstance b_isinstance (@pa_cons _ _ _ _ _ (pv 0) (@pa_cons _ _ _ _ _ (@pe_bltnT _ _ _ _ rfl m.tuple b_tuple (by decide) (by decide)) pa_nil rfl) rfl) (by decide) (by decide) rfl rfl) (@pe_and _ _ _ _ _ _ _ (@pe_cmpR _ _ _ _ _ _ _ _ op_eq (@pe_callB _ _ _ _ _ _ _ _ _ call_len_seq rfl m.len b_len (@pa_cons _ _ _ _ _ (pv 0) pa_nil rfl) (by decide) (by decide) rfl rfl) pe_int (nomark _)) (@pe_and _ _ _ _ _ _ _ (@pe_callF _ _ _ _ _ _ _ _ _ _ g_is_arm (hr.mono (by omega)) rfl (@pa_cons _ _ _ _ _ (@pe_slice _ _ _ _ _ _ _ _ _ _ sl_tupG (pv 0) (@po_none _) (@po_some _ _ _ pe_int)) pa_nil rfl) (by decide) rfl rfl) (@pe_one _ _ _ _ _ (@pe_callF _ _ _ _ _ _ _ _ _ _ g_is_default (hr.mono (by omega)) rfl (@pa_cons _ _ _ _ _ (@pe_ix _ _ _ _ _ _ _ ix_tup (pv 0) pe_int (fun _ _ =>  rfl)) pa_nil rfl) (by decide) rfl rfl))))))), ?_⟩
  refine ⟨_, rfl, _, _, t, rfl, ht, (by simp), _, rfl, ?_⟩
  cases t with
  | tup ts =>
    obtain ⟨a, ws, rfl, ha, at'⟩ := ht
    refine iteT ⟨_, rfl, a, ws, rfl, .inr ha, rfl, _, rfl, ?_⟩
    by_cases h4 : ts.length = 4
    · obtain ⟨t1, t2, t3, t4, rfl⟩ := len4 h4
      obtain ⟨x, y, z, u, rfl, i1, i2, i3, i4⟩ := are4 at'
      refine iteT ⟨_, rfl, _, rfl, a, _, rfl, ha, fun p H1 s1 h1 => ?_⟩
      have e3 : cutV [x, y, z, u] none (some 3) = [x, y, z] := rfl
      rw [e3] at h1
      refine ⟨.ref p, .tup [t1, t2, t3], rfl, ⟨p, _, rfl, h1, _, _, rfl, IsTh.up s1.upT _ _ i1, _, _, rfl, IsTh.up s1.upT _ _ i2, _, _, rfl, IsTh.up s1.upT _ _ i3, rfl⟩, ⟨gd.1, gd.2.1, gd.2.2.1, trivial⟩, fun H2 s2 => ⟨_, rfl, ?_⟩⟩
      have s12 := s1.trans s2
      refine ite2 (fun c1 => ?_) (fun c1 => ?_)
      · refine ⟨_, rfl, a, _, _, _, rfl, rfl, s12.up _ _ ha, at3, u, t4, rfl, IsTh.up s12.upT _ _ i4, gd.2.2.2.1, fun H3 s3 => ?_⟩
        have e : fieldTh (.tup [t1, t2, t3, t4]) = defTh t4 := by show (_ && _) = _; rw [c1]; rfl
        rw [← e]
        exact q H3 (s12.trans s3)
      · have e : fieldTh (.tup [t1, t2, t3, t4]) = false := by show (_ && _) = _; rw [nf c1]; rfl
        rw [← e]
        exact q H2 s12
    · refine iteN (by
        rw [← at'.length]
        show decide (_ = _) = false
        rw [decide_eq_false (fun z => h4 (by injection z with z; omega))]) ?_
      rw [← field_len h4]
      exact q H (Same.refl H)
  | bl b => exact iteF (q H (Same.refl H))
  | non => exact iteF (q H (Same.refl H))
  | int x => exact iteF (q H (Same.refl H))
  | str x => exact iteF (q H (Same.refl H))
  | opq => exact iteF (q H (Same.refl H))
theorem ok_are_bounds (F : Fun K "are_bounds" "are_bounds" s_are_bounds f fd) (g_is_item_whole : Fn P w K mg base 2 "is_item_whole" ["thing"] (spW1 K (-1000000000000000000) 1000000000000000000)) : FnOk P w K mg base CX0 3 f fd ["low", "high"] (spB2 K boundsTh) := by
  refine F.ok sc_are_bounds (fun vs H Q E h => ?_) (fun cdv A outer s H vs Q E hr h => ?_)
  · obtain ⟨u, v, s, t, rfl, _⟩ := h
    rfl
  obtain ⟨u, v, t1, t2, rfl, h1, h2, _, _, q⟩ := h
  refine ⟨_, (@pss_one _ _ _ (@ps_ret _ _ _ _ (@pe_and _ _ _ _ _ _ _ (@pe_callF _ _ _ _ _ _ _ _ _ _ g_is_item_whole (hr.mono (by omega)) rfl (@pa_cons _ _ _ _ _ (pv 0) pa_nil rfl) (by decide) rfl rfl) (@pe_and _ _ _ _ _ _ _ (@pe_callF _ _ _ _ _ _ _ _ _ _ g_is_item_whole (hr.mono (by omega)) rfl (@pa_cons _ _ _ _ _ (pv 1) pa_nil rfl) (by decide) rfl rfl) (@pe_one _ _ _ _ _ (@pe_cmpR _ _ _ _ _ _ _ _ op_le (pv 0) (pv 1) (nomark _))))))), ?_⟩
  refine ⟨_, rfl, u, t1, rfl, h1, _, rfl, ?_⟩
  have q := q H (Same.refl H)
  refine ite2 (fun c1 => ?_) (fun c1 => ?_)
  · refine ⟨_, rfl, v, t2, rfl, h2, _, rfl, ?_⟩
    refine ite2 (fun c2 => ?_) (fun c2 => ?_)
    · obtain ⟨i, rfl⟩ : ∃ i, t1 = .int i := by
        cases t1 with
        | int i => exact ⟨i, rfl⟩
        | bl _ => cases c1
        | _ => cases c1
      obtain ⟨j, rfl⟩ : ∃ i, t2 = .int i := by
        cases t2 with
        | int i => exact ⟨i, rfl⟩
        | bl _ => cases c2
        | _ => cases c2
      cases (show u = .int i from h1)
      cases (show v = .int j from h2)
      refine ⟨_, rfl, _, rfl, _, _, rfl, rfl, ?_⟩
      have e : boundsTh (.int i) (.int j) = decide (i ≤ j) := by show (wholeTh (-1000000000000000000) 1000000000000000000 (.int i) && wholeTh (-1000000000000000000) 1000000000000000000 (.int j) && _) = _; rw [c1, c2]; rfl
      rw [e] at q
      exact q
    · have e : boundsTh t1 t2 = false := by show (wholeTh (-1000000000000000000) 1000000000000000000 t1 && wholeTh (-1000000000000000000) 1000000000000000000 t2 && _) = _; rw [c1, nf c2]; rfl
      rw [← e]
      exact q
  · have e : boundsTh t1 t2 = false := by show (wholeTh (-1000000000000000000) 1000000000000000000 t1 && wholeTh (-1000000000000000000) 1000000000000000000 t2 && _) = _; rw [nf c1]; rfl
    rw [← e]
    exact q
end
end K19
namespace K19
open PySem PySem.Spec PyProof.Rows L2 K01
abbrev s_is_struck : Stmt := top 17
abbrev N_is_struck : List Str := ["thing", "taken"]
theorem sc_is_struck : FnScope N_is_struck ["thing", "taken"] (defScope s_is_struck) := ⟨rfl, rfl, rfl, by decide +kernel, rfl, by decide +kernel, by decide +kernel⟩
abbrev s_are_members : Stmt := top 16
abbrev N_are_members : List Str := ["members", "struck", "is_member", "numbers", "names"]
theorem sc_are_members : FnScope N_are_members ["members", "struck", "is_member"] (defScope s_are_members) := ⟨rfl, rfl, rfl, by decide +kernel, rfl, by decide +kernel, by decide +kernel⟩
def numTh : Th → Th
  | .tup (a :: _) => a
  | t => t
def namTh : Th → Th
  | .tup (_ :: b :: _) => b
  | t => t
def iOf : Th → Int
  | .int i => i
  | _ => 0
def kOf : Th → Key
  | .str x => .inr x
  | _ => .inl 0
def membTh (b : Bool) (t : Th) : Bool := if b = true then fieldTh t else armTh t
def struckTh (ns : List Int) : Th → Bool
  | .tup ts => (decide (ts.length ≤ 8) && ts.all (wholeTh 1 999)) && (risesTh ts && !ts.any fun u => inV (.int (iOf u)) (ns.map V.int))
  | _ => false
def membersTh (b : Bool) (s : Th) : Th → Bool
  | .tup ts => (decide (ts.length ≤ 8) && ts.all (membTh b)) && (risesTh (ts.map numTh) && (decide ((ts.map fun t => kOf (namTh t)).Nodup) && struckTh (ts.map fun t => iOf (numTh t)) s))
  | _ => false
theorem memb_form {b : Bool} {t : Th} (h : membTh b t = true) : ∃ i x r, t = .tup (.int i :: .str x :: r) := by
  have arm : ∀ u, armTh u = true → ∃ i x z, u = .tup [.int i, .str x, z] := fun u hu => by
    unfold armTh at hu
    split at hu
    · rename_i a b c
      rw [Bool.and_eq_true, Bool.and_eq_true] at hu
      obtain ⟨⟨h1, h2⟩, _⟩ := hu
      cases a with
      | int i =>
        cases b with
        | str x => exact ⟨i, x, c, rfl⟩
        | bl _ => cases h2
        | _ => cases h2
      | bl _ => cases h1
      | _ => cases h1
    · cases hu
  unfold membTh at h
  split at h
  · unfold fieldTh at h
    split at h
    · rename_i a b c d
      rw [Bool.and_eq_true] at h
      obtain ⟨i, x, z, e⟩ := arm _ h.1
      cases e
      exact ⟨i, x, _, rfl⟩
    · cases h
  · obtain ⟨i, x, z, e⟩ := arm _ h
    exact ⟨i, x, [z], e⟩
theorem wh_int {lo hi : Int} {t : Th} (h : wholeTh lo hi t = true) : t = .int (iOf t) := by
  cases t with
  | int i => rfl
  | bl _ => cases h
  | _ => cases h
theorem nums_eq {b : Bool} : ∀ {ts : List Th}, ts.all (membTh b) = true → ts.map numTh = (ts.map fun t => iOf (numTh t)).map Th.int
  | [], _ => rfl
  | t :: ts, h => by
    rw [List.all_cons, Bool.and_eq_true] at h
    obtain ⟨i, x, r, rfl⟩ := memb_form h.1
    rw [List.map_cons, List.map_cons, List.map_cons, nums_eq h.2]; rfl
theorem ints_eq {lo hi : Int} : ∀ {ts : List Th}, ts.all (wholeTh lo hi) = true → ts = (ts.map iOf).map Th.int
  | [], _ => rfl
  | t :: ts, h => by
    rw [List.all_cons, Bool.and_eq_true] at h
    rw [List.map_cons, List.map_cons, ← ints_eq h.2, ← wh_int h.1]
theorem are_ints {K : PySem.W.Frag} {H : Hp} : ∀ {ns : List Int} {ws : List V}, AreTh K H (ns.map Th.int) ws → ws = ns.map V.int
  | [], _, h => h
  | n :: ns, _, h => by
    obtain ⟨v, r, rfl, e, a⟩ := h
    cases (show v = .int n from e)
    rw [are_ints a]; rfl
theorem are_names {K : PySem.W.Frag} {H : Hp} {b : Bool} : ∀ {ts : List Th} {ws : List V}, ts.all (membTh b) = true → AreTh K H (ts.map namTh) ws → ws = (ts.map fun t => kOf (namTh t)).map kV
  | [], _, _, h => h
  | t :: ts, _, hm, h => by
    rw [List.all_cons, Bool.and_eq_true] at hm
    obtain ⟨i, x, r', rfl⟩ := memb_form hm.1
    obtain ⟨v, r, rfl, e, a⟩ := h
    cases (show v = .str x from e)
    rw [are_names hm.2 a]; rfl
theorem sub_len {α : Type} [DecidableEq α] : ∀ {us ks : List α}, us.Nodup → (∀ x ∈ us, x ∈ ks) → us.length ≤ ks.length
  | [], _, _, _ => Nat.zero_le _
  | u :: us, ks, h, m => by
    have h' := List.nodup_cons.mp h
    have mu : u ∈ ks := m u List.mem_cons_self
    have ih := sub_len (us := us) (ks := ks.erase u) h'.2 fun x mx => (List.mem_erase_of_ne (fun z => h'.1 (by rw [← z]; exact mx))).mpr (m x (List.mem_cons_of_mem _ mx))
    rw [List.length_erase_of_mem mu] at ih
    have : 0 < ks.length := List.length_pos_of_mem mu
    simp only [List.length_cons]; omega
theorem dup_of {α : Type} [DecidableEq α] : ∀ {ks : List α}, ¬ ks.Nodup → ∃ x, x ∈ ks ∧ x ∈ ks.erase x
  | [], h => absurd List.nodup_nil h
  | a :: ks, h => by
    by_cases m : a ∈ ks
    · exact ⟨a, List.mem_cons_self, by rw [List.erase_cons_head]; exact m⟩
    · obtain ⟨x, mx, ex⟩ := dup_of (ks := ks) fun z => h (List.nodup_cons.mpr ⟨m, z⟩)
      refine ⟨x, List.mem_cons_of_mem _ mx, ?_⟩
      have ne : a ≠ x := fun z => m (by rw [z]; exact mx)
      rw [List.erase_cons_tail (by simpa using ne)]
      exact List.mem_cons_of_mem _ ex
theorem dist_len {α : Type} [DecidableEq α] {us ks : List α} (hu : us.Nodup) (mm : ∀ x, x ∈ us ↔ x ∈ ks) (hl : us.length ≤ ks.length) : decide (V.int us.length = V.int ks.length) = decide ks.Nodup := by
  refine decide_eq_decide.mpr ⟨fun e => ?_, fun n => ?_⟩
  · injection e with e
    by_cases n : ks.Nodup
    · exact n
    · obtain ⟨x, mx, ex⟩ := dup_of n
      have := sub_len (ks := ks.erase x) hu fun y my => by
        by_cases z : y = x
        · rw [z]; exact ex
        · exact (List.mem_erase_of_ne z).mpr ((mm y).mp my)
      rw [List.length_erase_of_mem mx] at this
      have : 0 < ks.length := List.length_pos_of_mem mx
      omega
  · have := sub_len n fun y my => (mm y).mpr my
    rw [show us.length = ks.length by omega]
def spStruck (K : PySem.W.Frag) : Sp := fun vs H Q _ => ∃ v p t ns, vs = [v, .ref p] ∧ IsTh K H t v ∧ gdT t ∧ SqL K H p (ns.map V.int) ∧ ∀ H', Same H H' → Q (.bl (struckTh ns t)) H'
def MemF (P : Program) (w : World) (K : PySem.W.Frag) (mg : Str → Option Value) (base : Heap) (b : Bool) (fl : Addr) : Prop := ∃ k fd, k ≤ 4 ∧ FnOk P w K mg base CX0 k fl fd ["thing"] (spB1 K (membTh b)) ∧ Binds K fd ["thing"] [] ∧ PySem.W.keepIn K (.ref fl) = true
def spMembers (P : Program) (w : World) (K : PySem.W.Frag) (mg : Str → Option Value) (base : Heap) : Sp := fun vs H Q _ => ∃ u v fl b s t, vs = [u, v, .ref fl] ∧ MemF P w K mg base b fl ∧ IsTh K H t u ∧ IsTh K H s v ∧ gdT t ∧ gdT s ∧ ∀ H', Same H H' → Q (.bl (membersTh b s t)) H'
theorem flat_ints (ns : List Int) : (ns.map V.int).all flatV = true := by
  rw [List.all_eq_true]
  intro x m
  obtain ⟨n, _, rfl⟩ := List.mem_map.mp m
  rfl
theorem len8 {ts : List Th} (h : decide (ts.length ≤ 8) = true) : ts.length ≤ 1000000 := Nat.le_trans (of_decide_eq_true h) (by decide)
section
variable {P : Program} {w : World} {K : PySem.W.Frag} {mg : Str → Option Value} {base : Heap} {f : Addr} {fd : FuncData}
theorem ok_is_struck (F : Fun K "is_struck" "is_struck" s_is_struck f fd) (m : Bn mg) (g_is_short_tuple : Fn P w K mg base 1 "is_short_tuple" ["thing"] (spB1 K shortTh)) (g_is_number : Fn P w K mg base 2 "is_number" ["thing"] (spW1 K 1 999))
    (g_rises : Fn P w K mg base 1 "rises" ["things"] (spRisesT K)) : FnOk P w K mg base CX0 3 f fd ["thing", "taken"] (spStruck K) := by
  refine F.ok sc_is_struck (fun vs H Q E h => ?_) (fun cdv A outer s H vs Q E hr h => ?_)
  · obtain ⟨v, p, t, ns, rfl, _⟩ := h
    rfl
  obtain ⟨v, p, t, ns, rfl, ht, gd, hp, q⟩ := h
  refine ⟨_, (@pss_cons _ _ _ _ _ (@ps_if _ _ _ _ _ _ _ _ (@PW.pt _ _ _ (@pw_or _ _ _ _ _ _ _ (@pt_not _ _ _ _ (@pt_val _ _ _ (@pe_callF _ _ _ _ _ _ _ _ _ _ g_is_short_tuple (hr.mono (by omega)) rfl (@pa_cons _ _ _ _ _ (pv 0) pa_nil rfl) (by decide) rfl rfl) (by intro _; rfl))) (@pw_or1 _ _ _ _ (@pt_not _ _ _ _ (@pt_val _ _ _ (@pe_callB _ _ _ _ _ _ _ _ _ (call_allB rfl) rfl m.all b_all (@pa_cons _ _ _ _ _ (@pe_compI _ N_is_struck (defScope s_is_struck) ["number"] [none] _ _ _ _ _ _ _ _ _ _ rfl (@pi_tup _ _ _ _ (pv 0)) ⟨rfl, rfl, by decide +kernel, by decide +kernel⟩ (fun _ _ _ =>  (@pg_nameI _ 0 _ _ (show List.Nodup (["number"] : List Str) from by decide +kernel) rfl (Or.inl rfl) (by first | exact .inl rfl | exact .inr rfl))) (fun _ _ _ =>  pts_nil) (fun _ _ _ =>  (@pe_callF _ _ _ _ _ _ _ _ _ _ g_is_number (hr.mono (by omega)) rfl (@pa_cons _ _ _ _ _ (pv 0) pa_nil rfl) (by decide) rfl rfl)) (by first | rfl | decide | (intro _; rfl) | exact .inl rfl | exact .inr rfl | assumption)) pa_nil rfl) (by decide) (by decide) rfl rfl) (by intro _; rfl)))))) (@pss_one _ _ _ (@ps_ret _ _ _ _ pe_bl)) pss_nil) (@pss_one _ _ _ (@ps_ret _ _ _ _ (@pe_and _ _ _ _ _ _ _ (@pe_callF _ _ _ _ _ _ _ _ _ _ g_rises (hr.mono (by omega)) rfl (@pa_cons _ _ _ _ _ (pv 0) pa_nil rfl) (by decide) rfl rfl) (@pe_one _ _ _ _ _ (@pe_not _ _ _ _ (@pe_callB _ _ _ _ _ _ _ _ _ (call_anyB rfl) rfl m.any b_any (@pa_cons _ _ _ _ _ (@pe_compI _ N_is_struck (defScope s_is_struck) ["number", "taken"] [none, some 1] _ _ _ _ _ _ _ _ _ _ rfl (@pi_tup _ _ _ _ (pv 0)) ⟨rfl, rfl, by decide +kernel, by decide +kernel⟩ (fun _ _ _ =>  (@pg_nameI _ 0 _ _ (show List.Nodup (["number", "taken"] : List Str) from by decide +kernel) rfl (Or.inl rfl) (by first | exact .inl rfl | exact .inr rfl))) (fun _ _ _ =>  pts_nil) (fun _ _ _ =>  (@pe_cmpR _ _ _ _ _ _ _ _ op_in_seq (pv 0) (pv 1) rfl)) (by first | rfl | decide | (intro _; rfl) | exact .inl rfl | exact .inr rfl | assumption)) pa_nil rfl) (by decide) (by decide) rfl rfl))))))), ?_⟩
  refine ⟨_, rfl, v, t, rfl, ht, gd, fun H1 s1 => ⟨_, rfl, ?_⟩⟩
  cases t with
  | tup ts =>
    obtain ⟨a, ws, rfl, ha, at'⟩ := ht
    cases c8 : shortTh (.tup ts) with
    | false =>
      refine iteT (iteT ?_)
      have e : struckTh ns (.tup ts) = false := by
        show ((decide (ts.length ≤ 8) && _) && _) = false
        rw [show decide (ts.length ≤ 8) = false from c8]; rfl
      rw [← e]
      exact q H1 s1
    | true =>
      refine iteF ⟨_, rfl, a, rfl, ⟨ws, s1.up _ _ ha⟩, fun D fp sx hD => ?_⟩
      refine compB_tup (p := wholeTh 1 999) (s1.up _ _ ha) (AreTh.up s1.upT _ _ at') (len8 c8) hD (fun t v H5 Q5 mt s5 i5 q5 => ?_) fun H6 s6 h6 => ⟨D, _, rfl, SqL.of h6, _, rfl, ?_⟩
      · exact ⟨_, rfl, v, t, rfl, i5, q5 H5 (Same.refl H5)⟩
      have s16 := s1.trans s6
      have e6 : (ts.map (wholeTh 1 999)).all id = ts.all (wholeTh 1 999) := by rw [List.all_map]; rfl
      rw [e6]
      cases cw : ts.all (wholeTh 1 999) with
      | false =>
        refine iteT ?_
        have e : struckTh ns (.tup ts) = false := by
          show ((decide (ts.length ≤ 8) && ts.all (wholeTh 1 999)) && _) = false
          rw [cw, Bool.and_false]; rfl
        rw [← e]
        exact q H6 s16
      | true =>
        have ei := ints_eq cw
        refine iteF ⟨_, rfl, a, ts.map iOf, ws, rfl, s16.up _ _ ha, by rw [← ei]; exact AreTh.up s16.upT _ _ at', ?_, fun H7 s7 => ⟨_, rfl, ?_⟩⟩
        · rw [List.length_map]; exact len8 c8
        rw [← ei]
        have s17 := s16.trans s7
        have e0 : struckTh ns (.tup ts) = (risesTh ts && !ts.any fun u => inV (.int (iOf u)) (ns.map V.int)) := by
          show ((decide (ts.length ≤ 8) && ts.all (wholeTh 1 999)) && _) = _
          rw [show decide (ts.length ≤ 8) = true from c8, cw]; rfl
        refine ite2 (fun cr => ?_) (fun cr => ?_)
        · refine ⟨_, rfl, a, rfl, ⟨ws, s17.up _ _ ha⟩, fun D fp sx hD => ?_⟩
          refine compB_tup (p := fun u => inV (.int (iOf u)) (ns.map V.int)) (s17.up _ _ ha) (AreTh.up s17.upT _ _ at') (len8 c8) hD (fun t v H5 Q5 mt s5 i5 q5 => ?_) fun H8 s8 h8 => ⟨D, _, rfl, SqL.of h8, _, rfl, ?_⟩
          · have et := wh_int (List.all_eq_true.mp cw t mt)
            rw [et] at i5
            cases (show v = .int (iOf t) from i5)
            exact ⟨_, rfl, _, rfl, p, _, rfl, .inl ((s17.trans s5).seq hp), rfl, flat_ints ns, q5 H5 (Same.refl H5)⟩
          · have e8 : ((ts.map fun u => inV (.int (iOf u)) (ns.map V.int)).any id) = ts.any fun u => inV (.int (iOf u)) (ns.map V.int) := by rw [List.any_map]; rfl
            rw [e8]
            have q' := q H8 (s17.trans s8)
            rw [e0, cr, Bool.true_and] at q'
            exact q'
        · have q' := q H7 s17
          rw [e0, nf cr, Bool.false_and] at q'
          exact q'
  | bl b => exact iteT (iteT (q H1 s1))
  | non => exact iteT (iteT (q H1 s1))
  | int x => exact iteT (iteT (q H1 s1))
  | str x => exact iteT (iteT (q H1 s1))
  | opq => exact iteT (iteT (q H1 s1))
theorem ok_are_members (F : Fun K "are_members" "are_members" s_are_members f fd) (m : Bn mg) (g_is_short_tuple : Fn P w K mg base 1 "is_short_tuple" ["thing"] (spB1 K shortTh))
    (g_rises : Fn P w K mg base 1 "rises" ["things"] (spRises K)) (g_is_struck : Fn P w K mg base 3 "is_struck" ["thing", "taken"] (spStruck K)) : FnOk P w K mg base CX0 5 f fd ["members", "struck", "is_member"] (spMembers P w K mg base) := by
  refine F.ok sc_are_members (fun vs H Q E h => ?_) (fun cdv A outer s H vs Q E hr h => ?_)
  · obtain ⟨u, v, fl, b, s, t, rfl, _⟩ := h
    rfl
  obtain ⟨u, v, fl, b, st, t, rfl, ⟨k', fd', k4, ok', bd', kp'⟩, ht, hs, gt, gs, q⟩ := h
  refine ⟨_, (@pss_cons _ _ _ _ _ (@ps_if _ _ _ _ _ _ _ _ (@PW.pt _ _ _ (@pw_or _ _ _ _ _ _ _ (@pt_not _ _ _ _ (@pt_val _ _ _ (@pe_callF _ _ _ _ _ _ _ _ _ _ g_is_short_tuple (hr.mono (by omega)) rfl (@pa_cons _ _ _ _ _ (pv 0) pa_nil rfl) (by decide) rfl rfl) (by intro _; rfl))) (@pw_or1 _ _ _ _ (@pt_not _ _ _ _ (@pt_val _ _ _ (@pe_callB _ _ _ _ _ _ _ _ _ (call_allB rfl) rfl m.all b_all (@pa_cons _ _ _ _ _ (@pe_compI _ N_are_members (defScope s_are_members) ["member", "is_member"] [none, some 2] _ _ _ _ _ _ _ _ _ _ rfl (@pi_tup _ _ _ _ (pv 0)) ⟨rfl, rfl, by decide +kernel, by decide +kernel⟩ (fun _ _ _ =>  (@pg_nameI _ 0 _ _ (show List.Nodup (["member", "is_member"] : List Str) from by decide +kernel) rfl (Or.inl rfl) (by first | exact .inl rfl | exact .inr rfl))) (fun _ _ _ =>  pts_nil) (fun _ _ _ =>  (@pe_callV _ _ _ _ _ _ _ _ (pv 1) (@pa_cons _ _ _ _ _ (pv 0) pa_nil rfl) rfl rfl)) (by first | rfl | decide | (intro _; rfl) | exact .inl rfl | exact .inr rfl | assumption)) pa_nil rfl) (by decide) (by decide) rfl rfl) (by intro _; rfl)))))) (@pss_one _ _ _ (@ps_ret _ _ _ _ pe_bl)) pss_nil) (@pss_cons _ _ _ _ _ (@ps_setCompI _ 3 N_are_members (defScope s_are_members) ["member"] [none] _ _ _ _ _ _ _ _ _ _ _ _ _ sc_are_members.nd rfl (by first | exact Or.inl rfl | exact Or.inr rfl) rfl (@pi_tup _ _ _ _ (pv 0)) ⟨rfl, rfl, by decide +kernel, by decide +kernel⟩ (fun _ _ _ =>  (@pg_nameI _ 0 _ _ (show List.Nodup (["member"] : List Str) from by decide +kernel) rfl (Or.inl rfl) (by first | exact .inl rfl | exact .inr rfl))) (fun _ _ _ =>  pts_nil) (fun _ _ _ =>  (@pe_ix _ _ _ _ _ _ _ ix_tup (pv 0) pe_int (fun _ _ =>  rfl))) (by first | rfl | decide | (intro _; rfl) | exact .inl rfl | exact .inr rfl | assumption) (by first | rfl | decide | (intro _; rfl) | exact .inl rfl | exact .inr rfl | assumption) (by first | rfl | decide | (intro _; rfl) | exact .inl rfl | exact .inr rfl | assumption)) (@pss_cons _ _ _ _ _ (@ps_setCompI _ 4 N_are_members (defScope s_are_members) ["member"] [none] _ _ _ _ _ _ _ _ _ _ _ _ _ sc_are_members.nd rfl (by first | exact Or.inl rfl | exact Or.inr rfl) rfl (@pi_tup _ _ _ _ (pv 0)) ⟨rfl, rfl, by decide +kernel, by decide +kernel⟩ (fun _ _ _ =>  (@pg_nameI _ 0 _ _ (show List.Nodup (["member"] : List Str) from by decide +kernel) rfl (Or.inl rfl) (by first | exact .inl rfl | exact .inr rfl))) (fun _ _ _ =>  pts_nil) (fun _ _ _ =>  (@pe_ix _ _ _ _ _ _ _ ix_tup (pv 0) pe_int (fun _ _ =>  rfl))) (by first | rfl | decide | (intro _; rfl) | exact .inl rfl | exact .inr rfl | assumption) (by first | rfl | decide | (intro _; rfl) | exact .inl rfl | exact .inr rfl | assumption) (by first | rfl | decide | (intro _; rfl) | exact .inl rfl | exact .inr rfl | assumption)) (@pss_one _ _ _ (@ps_ret _ _ _ _ (@pe_and _ _ _ _ _ _ _ (@pe_callF _ _ _ _ _ _ _ _ _ _ g_rises (hr.mono (by omega)) rfl (@pa_cons _ _ _ _ _ (pv 3) pa_nil rfl) (by decide) rfl rfl) (@pe_and _ _ _ _ _ _ _ (@pe_cmpR _ _ _ _ _ _ _ _ op_eq (@pe_callB _ _ _ _ _ _ _ _ _ call_lenSet rfl m.len b_len (@pa_cons _ _ _ _ _ (@pe_callTy _ _ _ _ _ _ _ _ _ (call_setK rfl) rfl m.set b_set (@pa_cons _ _ _ _ _ (pv 4) pa_nil rfl) (by first | rfl | decide | (intro _; rfl) | exact .inl rfl | exact .inr rfl | assumption) (by first | rfl | decide | (intro _; rfl) | exact .inl rfl | exact .inr rfl | assumption) (by first | rfl | decide | (intro _; rfl) | exact .inl rfl | exact .inr rfl | assumption) (by first | rfl | decide | (intro _; rfl) | exact .inl rfl | exact .inr rfl | assumption)) pa_nil rfl) (by decide) (by decide) rfl rfl) (@pe_callB _ _ _ _ _ _ _ _ _ call_len_seq rfl m.len b_len (@pa_cons _ _ _ _ _ (pv 4) pa_nil rfl) (by decide) (by decide) rfl rfl) (nomark _)) (@pe_one _ _ _ _ _ (@pe_callF _ _ _ _ _ _ _ _ _ _ g_is_struck (hr.mono (by omega)) rfl (@pa_cons _ _ _ _ _ (pv 1) (@pa_cons _ _ _ _ _ (pv 3) pa_nil rfl) rfl) (by decide) rfl rfl))))))))), ?_⟩
  refine ⟨_, rfl, u, t, rfl, ht, gt, fun H1 s1 => ⟨_, rfl, ?_⟩⟩
  cases t with
  | tup ts =>
    obtain ⟨a, ws, rfl, ha, at'⟩ := ht
    cases c8 : shortTh (.tup ts) with
    | false =>
      refine iteT (iteT ?_)
      have e : membersTh b st (.tup ts) = false := by
        show ((decide (ts.length ≤ 8) && _) && _) = false
        rw [show decide (ts.length ≤ 8) = false from c8]; rfl
      rw [← e]
      exact q H1 s1
    | true =>
      refine iteF ⟨_, rfl, a, rfl, ⟨ws, s1.up _ _ ha⟩, fun D fp sx hD => ?_⟩
      refine compB_tup (p := membTh b) (s1.up _ _ ha) (AreTh.up s1.upT _ _ at') (len8 c8) hD (fun t v H5 Q5 mt s5 i5 q5 => ?_) fun H6 s6 h6 => ⟨D, _, rfl, SqL.of h6, _, rfl, ?_⟩
      · exact ⟨_, rfl, fl, ["thing"], spB1 K (membTh b), rfl, ⟨⟨k', fd', ok', bd', hr.mono (by omega)⟩, kp'⟩, _, rfl, v, t, rfl, i5, gdTs_all.mp gt t mt, q5⟩
      have s16 := s1.trans s6
      have e6 : (ts.map (membTh b)).all id = ts.all (membTh b) := by rw [List.all_map]; rfl
      rw [e6]
      cases cw : ts.all (membTh b) with
      | false =>
        refine iteT ?_
        have e : membersTh b st (.tup ts) = false := by
          show ((decide (ts.length ≤ 8) && ts.all (membTh b)) && _) = false
          rw [cw, Bool.and_false]; rfl
        rw [← e]
        exact q H6 s16
      | true =>
        have e0 : membersTh b st (.tup ts) = (risesTh (ts.map numTh) && (decide ((ts.map fun t => kOf (namTh t)).Nodup) && struckTh (ts.map fun t => iOf (numTh t)) st)) := by
          show ((decide (ts.length ≤ 8) && ts.all (membTh b)) && _) = _
          rw [show decide (ts.length ≤ 8) = true from c8, cw]; rfl
        refine iteF ⟨_, rfl, a, rfl, ⟨ws, s16.up _ _ ha⟩, fun D fp sx hD => ?_⟩
        refine compT_tup (f := numTh) (s16.up _ _ ha) (AreTh.up s16.upT _ _ at') (len8 c8) hD (fun t v H5 Q5 mt s5 i5 q5 => ?_) fun H7 w7 s7 h7 a7 => ?_
        · obtain ⟨i, x, r, rfl⟩ := memb_form (List.all_eq_true.mp cw t mt)
          obtain ⟨p, xs, rfl, hp, y, ys, rfl, iy, _⟩ := i5
          exact ⟨_, rfl, p, _, _, _, rfl, rfl, hp, at0, q5 y H5 (Same.refl H5) iy⟩
        have s17 := s16.trans s7
        refine ⟨_, rfl, a, rfl, ⟨ws, s17.up _ _ ha⟩, fun D2 fp sx hD2 => ?_⟩
        refine compT_tup (f := namTh) (s17.up _ _ ha) (AreTh.up s17.upT _ _ at') (len8 c8) hD2 (fun t v H5 Q5 mt s5 i5 q5 => ?_) fun H8 w8 s8 h8 a8 => ?_
        · obtain ⟨i, x, r, rfl⟩ := memb_form (List.all_eq_true.mp cw t mt)
          obtain ⟨p, xs, rfl, hp, y, ys, rfl, _, z, zs, rfl, iz, _⟩ := i5
          exact ⟨_, rfl, p, _, _, _, rfl, rfl, hp, at1, q5 z H5 (Same.refl H5) iz⟩
        have s18 := s17.trans s8
        have en := nums_eq cw
        rw [en] at a7
        have ew := are_ints a7
        have ek := are_names cw a8
        subst ew
        subst ek
        refine ⟨_, rfl, D, _, _, rfl, SqL.of (s8 _ _ h7), AreTh.up s8.upT _ _ a7, ?_, fun H9 s9 => ⟨_, rfl, ?_⟩⟩
        · rw [List.length_map]; exact len8 c8
        rw [← en]
        have s19 := s18.trans s9
        refine ite2 (fun cr => ?_) (fun cr => ?_)
        · have k8 : ts.length ≤ 8 := of_decide_eq_true c8
          refine ⟨_, rfl, D2, _, rfl, s9.seq (SqL.of h8), ?_, fun l us hl nd mm le => ?_⟩
          · rw [List.length_map]; exact Nat.lt_of_le_of_lt (Nat.succ_le_succ k8) (by decide)
          have sA := Same.lay (o := SetHO P w l us) hl
          refine ⟨l, us, rfl, upd_same, _, rfl, D2, _, rfl, .inl ((s9.trans sA).seq (SqL.of h8)), rfl, _, rfl, ?_⟩
          have ed : decide (V.int us.length = V.int ((ts.map fun t => kOf (namTh t)).map kV).length) = decide (ts.map fun t => kOf (namTh t)).Nodup := by
            rw [List.length_map]; exact dist_len nd mm le
          rw [ed]
          have sB := s19.trans sA
          refine ite2 (fun cd => ?_) (fun cd => ?_)
          · refine ⟨_, rfl, _, rfl, v, D, st, _, rfl, IsTh.up sB.upT _ _ hs, gs, ((s8.trans s9).trans sA).seq (SqL.of h7), fun HZ sZ => ?_⟩
            have q' := q HZ (sB.trans sZ)
            rw [e0, cr, cd, Bool.true_and, Bool.true_and] at q'
            exact q'
          · have q' := q _ sB
            rw [e0, nf cd, Bool.false_and, Bool.and_false] at q'
            exact q'
        · have q' := q H9 s19
          rw [e0, nf cr, Bool.false_and] at q'
          exact q'
  | bl b => exact iteT (iteT (q H1 s1))
  | non => exact iteT (iteT (q H1 s1))
  | int x => exact iteT (iteT (q H1 s1))
  | str x => exact iteT (iteT (q H1 s1))
  | opq => exact iteT (iteT (q H1 s1))
end
end K19
namespace K19
open PySem PySem.Spec PyProof.Rows L2 K01
abbrev s_is_shape : Stmt := top 14
abbrev N_is_shape : List Str := ["thing", "sort"]
theorem sc_is_shape : FnScope N_is_shape ["thing"] (defScope s_is_shape) := ⟨rfl, rfl, rfl, by decide +kernel, rfl, by decide +kernel, by decide +kernel⟩
def wholeS : List Th → Bool
  | [a, b] => boundsTh a b
  | _ => false
def textS : List Th → Bool
  | [a] => wholeTh 0 200 a
  | _ => false
def rowS : List Th → Bool
  | [a, b] => nameTh a && wholeTh 0 20 b
  | _ => false
def recS : List Th → Bool
  | [a, b] => membersTh true b a
  | _ => false
def choS : List Th → Bool
  | [a, b, c] => membersTh false b a && isiT "bool" c
  | _ => false
def shapeTh : Th → Bool
  | .tup (k :: r) =>
    if eqT k "whole" = true then wholeS r else if eqT k "truth" = true then r.isEmpty else if eqT k "text" = true then textS r
    else if eqT k "row" = true then rowS r else if eqT k "map" = true then rowS r else if eqT k "record" = true then recS r else if eqT k "choice" = true then choS r else false
  | _ => false
theorem two_of {r : List Th} (h : r.length = 2) : ∃ a b, r = [a, b] := by
  match r, h with
  | [a, b], _ => exact ⟨a, b, rfl⟩
theorem wholeS_len {r : List Th} (h : r.length ≠ 2) : wholeS r = false := by
  unfold wholeS; split
  · exact absurd rfl h
  · rfl
theorem textS_len {r : List Th} (h : r.length ≠ 1) : textS r = false := by
  unfold textS; split
  · exact absurd rfl h
  · rfl
theorem rowS_len {r : List Th} (h : r.length ≠ 2) : rowS r = false := by
  unfold rowS; split
  · exact absurd rfl h
  · rfl
theorem recS_len {r : List Th} (h : r.length ≠ 2) : recS r = false := by
  unfold recS; split
  · exact absurd rfl h
  · rfl
theorem choS_len {r : List Th} (h : r.length ≠ 3) : choS r = false := by
  unfold choS; split
  · exact absurd rfl h
  · rfl
theorem one_of {r : List Th} (h : r.length = 1) : ∃ a, r = [a] := by
  match r, h with
  | [a], _ => exact ⟨a, rfl⟩
theorem are1 {K : PySem.W.Frag} {H : Hp} {a : Th} {ws : List V} (h : AreTh K H [a] ws) : ∃ x, ws = [x] ∧ IsTh K H a x := by
  obtain ⟨x, r, rfl, i1, e⟩ := h
  cases (show r = [] from e)
  exact ⟨x, rfl, i1⟩
theorem are2 {K : PySem.W.Frag} {H : Hp} {a b : Th} {ws : List V} (h : AreTh K H [a, b] ws) : ∃ x y, ws = [x, y] ∧ IsTh K H a x ∧ IsTh K H b y := by
  obtain ⟨x, r, rfl, i1, y, r2, rfl, i2, e⟩ := h
  cases (show r2 = [] from e)
  exact ⟨x, y, rfl, i1, i2⟩
theorem empty_len (r : List Th) : decide (r.length = 0) = r.isEmpty := by cases r <;> rfl
theorem lenV {K : PySem.W.Frag} {H : Hp} {k : Th} {r : List Th} {ws : List V} (at' : AreTh K H (k :: r) ws) (n : Nat) : decide (V.int ws.length = V.int ((n + 1 : Nat) : Int)) = decide (r.length = n) := by
  rw [← at'.length]
  refine decide_eq_decide.mpr ⟨fun e => ?_, fun e => ?_⟩
  · injection e with e
    simp only [List.length_cons] at e; omega
  · rw [List.length_cons, e]
section
variable {P : Program} {w : World} {K : PySem.W.Frag} {mg : Str → Option Value} {base : Heap} {f : Addr} {fd : FuncData}
theorem ok_is_shape (F : Fun K "is_shape" "is_shape" s_is_shape f fd) (m : Bn mg) (c : Cn mg) (g_is_whole : Fn P w K mg base 1 "is_whole" ["thing", "low", "high"] (spWhole K)) (g_is_name : Fn P w K mg base 1 "is_name" ["thing"] (spName K))
    (g_are_bounds : Fn P w K mg base 3 "are_bounds" ["low", "high"] (spB2 K boundsTh)) (g_are_members : Fn P w K mg base 5 "are_members" ["members", "struck", "is_member"] (spMembers P w K mg base))
    {f1 f2 : Addr} (x_is_field : mg "is_field" = some (.ref f1)) (x_is_arm : mg "is_arm" = some (.ref f2)) (l1 : MemF P w K mg base true f1) (l2 : MemF P w K mg base false f2) : FnOk P w K mg base CX0 6 f fd ["thing"] (spB1 K shapeTh) := by
  refine F.ok sc_is_shape (fun vs H Q E h => ?_) (fun cdv A outer s H vs Q E hr h => ?_)
  · obtain ⟨v, t, rfl, _⟩ := h
    rfl
  obtain ⟨v, t, rfl, ht, gd, q⟩ := h
  refine ⟨_, (@pss_cons _ _ _ _ _ (@ps_if _ _ _ _ _ _ _ _ (@PW.pt _ _ _ (@pw_or _ _ _ _ _ _ _ (@pt_not _ _ _ _ (@pt_val _ _ _ (@pe_callB _ _ _ _ _ _ _ _ _ call_isiTh rfl m.isinstance b_isinstance (@pa_cons _ _ _ _ _ (pv 0) (@pa_cons _ _ _ _ _ (@pe_bltnT _ _ _ _ rfl m.tuple b_tuple (by decide) (by decide)) pa_nil rfl) rfl) (by decide) (by decide) rfl rfl) (by intro _; rfl))) (@pw_or1 _ _ _ _ (@pt_cmpR _ _ _ _ _ _ _ _ op_eq (@pe_callB _ _ _ _ _ _ _ _ _ call_len_seq rfl m.len b_len (@pa_cons _ _ _ _ _ (pv 0) pa_nil rfl) (by decide) (by decide) rfl rfl) pe_int (nomark _))))) (@pss_one _ _ _ (@ps_ret _ _ _ _ pe_bl)) pss_nil) (@pss_cons _ _ _ _ _ (@ps_setI _ 1 _ _ _ _ _ sc_is_shape.nd rfl (by first | exact Or.inl rfl | exact Or.inr rfl) (@pe_ix _ _ _ _ _ _ _ ix_tup (pv 0) pe_int (fun _ _ =>  rfl)) rfl (by first | exact .inl rfl | exact .inr rfl)) (@pss_cons _ _ _ _ _ (@ps_if _ _ _ _ _ _ _ _ (@pt_cmpR _ _ _ _ _ _ _ _ op_eqTh (pv 1) pe_str (nomark _)) (@pss_one _ _ _ (@ps_ret _ _ _ _ (@pe_and _ _ _ _ _ _ _ (@pe_cmpR _ _ _ _ _ _ _ _ op_eq (@pe_callB _ _ _ _ _ _ _ _ _ call_len_seq rfl m.len b_len (@pa_cons _ _ _ _ _ (pv 0) pa_nil rfl) (by decide) (by decide) rfl rfl) pe_int (nomark _)) (@pe_one _ _ _ _ _ (@pe_callF _ _ _ _ _ _ _ _ _ _ g_are_bounds (hr.mono (by omega)) rfl (@pa_cons _ _ _ _ _ (@pe_ix _ _ _ _ _ _ _ ix_tup (pv 0) pe_int (fun _ _ =>  rfl)) (@pa_cons _ _ _ _ _ (@pe_ix _ _ _ _ _ _ _ ix_tup (pv 0) pe_int (fun _ _ =>  rfl)) pa_nil rfl) rfl) (by decide) rfl rfl))))) pss_nil) (@pss_cons _ _ _ _ _ (@ps_if _ _ _ _ _ _ _ _ (@pt_cmpR _ _ _ _ _ _ _ _ op_eqTh (pv 1) pe_str (nomark _)) (@pss_one _ _ _ (@ps_ret _ _ _ _ (@pe_cmpR _ _ _ _ _ _ _ _ op_eq (@pe_callB _ _ _ _ _ _ _ _ _ call_len_seq rfl m.len b_len (@pa_cons _ _ _ _ _ (pv 0) pa_nil rfl) (by decide) (by decide) rfl rfl) pe_int (nomark _)))) pss_nil) (@pss_cons _ _ _ _ _ (@ps_if _ _ _ _ _ _ _ _ (@pt_cmpR _ _ _ _ _ _ _ _ op_eqTh (pv 1) pe_str (nomark _)) (@pss_one _ _ _ (@ps_ret _ _ _ _ (@pe_and _ _ _ _ _ _ _ (@pe_cmpR _ _ _ _ _ _ _ _ op_eq (@pe_callB _ _ _ _ _ _ _ _ _ call_len_seq rfl m.len b_len (@pa_cons _ _ _ _ _ (pv 0) pa_nil rfl) (by decide) (by decide) rfl rfl) pe_int (nomark _)) (@pe_one _ _ _ _ _ (@pe_callF _ _ _ _ _ _ _ _ _ _ g_is_whole (hr.mono (by omega)) rfl (@pa_cons _ _ _ _ _ (@pe_ix _ _ _ _ _ _ _ ix_tup (pv 0) pe_int (fun _ _ =>  rfl)) (@pa_cons _ _ _ _ _ pe_int (@pa_cons _ _ _ _ _ (@pe_globN _ _ _ _ rfl c.LONGEST_TEXT (by decide)) pa_nil rfl) rfl) rfl) (by decide) rfl rfl))))) pss_nil) (@pss_cons _ _ _ _ _ (@ps_if _ _ _ _ _ _ _ _ (@PW.pt _ _ _ (@pw_or _ _ _ _ _ _ _ (@pt_cmpR _ _ _ _ _ _ _ _ op_eqTh (pv 1) pe_str (nomark _)) (@pw_or1 _ _ _ _ (@pt_cmpR _ _ _ _ _ _ _ _ op_eqTh (pv 1) pe_str (nomark _))))) (@pss_one _ _ _ (@ps_ret _ _ _ _ (@pe_and _ _ _ _ _ _ _ (@pe_cmpR _ _ _ _ _ _ _ _ op_eq (@pe_callB _ _ _ _ _ _ _ _ _ call_len_seq rfl m.len b_len (@pa_cons _ _ _ _ _ (pv 0) pa_nil rfl) (by decide) (by decide) rfl rfl) pe_int (nomark _)) (@pe_and _ _ _ _ _ _ _ (@pe_callF _ _ _ _ _ _ _ _ _ _ g_is_name (hr.mono (by omega)) rfl (@pa_cons _ _ _ _ _ (@pe_ix _ _ _ _ _ _ _ ix_tup (pv 0) pe_int (fun _ _ =>  rfl)) pa_nil rfl) (by decide) rfl rfl) (@pe_one _ _ _ _ _ (@pe_callF _ _ _ _ _ _ _ _ _ _ g_is_whole (hr.mono (by omega)) rfl (@pa_cons _ _ _ _ _ (@pe_ix _ _ _ _ _ _ _ ix_tup (pv 0) pe_int (fun _ _ =>  rfl)) (@pa_cons _ _ _ _ _ pe_int (@pa_cons _ _ _ _ _ (@pe_globN _ _ _ _ rfl c.MOST_PARTS (by decide)) pa_nil rfl) rfl) rfl) (by decide) rfl rfl)))))) pss_nil) (@pss_cons _ _ _ _ _ (@ps_if _ _ _ _ _ _ _ _ (@pt_cmpR _ _ _ _ _ _ _ _ op_eqTh (pv 1) pe_str (nomark _)) (@pss_one _ _ _ (@ps_ret _ _ _ _ (@pe_and _ _ _ _ _ _ _ (@pe_cmpR _ _ _ _ _ _ _ _ op_eq (@pe_callB _ _ _ _ _ _ _ _ _ call_len_seq rfl m.len b_len (@pa_cons _ _ _ _ _ (pv 0) pa_nil rfl) (by decide) (by decide) rfl rfl) pe_int (nomark _)) (@pe_one _ _ _ _ _ (@pe_callF _ _ _ _ _ _ _ _ _ _ g_are_members (hr.mono (by omega)) rfl (@pa_cons _ _ _ _ _ (@pe_ix _ _ _ _ _ _ _ ix_tup (pv 0) pe_int (fun _ _ =>  rfl)) (@pa_cons _ _ _ _ _ (@pe_ix _ _ _ _ _ _ _ ix_tup (pv 0) pe_int (fun _ _ =>  rfl)) (@pa_cons _ _ _ _ _ (@pe_globR _ _ _ _ rfl x_is_field (by decide)) pa_nil rfl) rfl) rfl) (by decide) rfl rfl))))) pss_nil) (@pss_cons _ _ _ _ _ (@ps_if _ _ _ _ _ _ _ _ (@pt_cmpR _ _ _ _ _ _ _ _ op_eqTh (pv 1) pe_str (nomark _)) (@pss_one _ _ _ (@ps_ret _ _ _ _ (@pe_and _ _ _ _ _ _ _ (@pe_cmpR _ _ _ _ _ _ _ _ op_eq (@pe_callB _ _ _ _ _ _ _ _ _ call_len_seq rfl m.len b_len (@pa_cons _ _ _ _ _ (pv 0) pa_nil rfl) (by decide) (by decide) rfl rfl) pe_int (nomark _)) (@pe_and _ _ _ _ _ _ _ (@pe_callF _ _ _ _ _ _ _ _ _ _ g_are_members (hr.mono (by omega)) rfl (@pa_cons _ _ _ _ _ (@pe_ix _ _ _ _ _ _ _ ix_tup (pv 0) pe_int (fun _ _ =>  rfl)) (@pa_cons _ _ _ _ _ (@pe_ix _ _ _ _ _ _ _ ix_tup (pv 0) pe_int (fun _ _ =>  rfl)) (@pa_cons _ _ _ _ _ (@pe_globR _ _ _ _ rfl x_is_arm (by decide)) pa_nil rfl) rfl) rfl) (by decide) rfl rfl) (@pe_one _ _ _ _ _ (@pe_callB _ _ _ _ _ _ _ _ _ call_isiTh rfl m.isinstance b_isinstance (@pa_cons _ _ _ _ _ (@pe_ix _ _ _ _ _ _ _ ix_tup (pv 0) pe_int (fun _ _ =>  rfl)) (@pa_cons _ _ _ _ _ (@pe_bltnT _ _ _ _ rfl m.bool b_bool (by decide) (by decide)) pa_nil rfl) rfl) (by decide) (by decide) rfl rfl)))))) pss_nil) (@pss_one _ _ _ (@ps_ret _ _ _ _ pe_bl)))))))))), ?_⟩
  have hu := Room.units0 hr
  refine ⟨_, rfl, _, _, t, rfl, ht, (by simp), _, rfl, ?_⟩
  cases t with
  | tup ts =>
    obtain ⟨a, ws, rfl, ha, at'⟩ := ht
    refine iteF ⟨_, rfl, a, ws, rfl, .inr ha, rfl, _, rfl, ?_⟩
    cases ts with
    | nil =>
      cases (show ws = [] from at')
      exact iteT (q H (Same.refl H))
    | cons k r =>
      have L := fun n => lenV at' n
      obtain ⟨x, xs, rfl, ik, ar⟩ := at'
      refine iteN (by
        show decide (_ = _) = false
        exact decide_eq_false (fun z => by injection z with z; simp only [List.length_cons] at z; omega)) ?_
      refine ⟨_, rfl, a, _, _, _, rfl, rfl, ha, at0, ?_⟩
      have g1 : gdTs r := gd.2
      refine ⟨_, rfl, k, _, ik, rfl, hu, _, rfl, ?_⟩
      refine ite2 (fun c1 => ?_) (fun c1 => ?_)
      · have e0 : shapeTh (.tup (k :: r)) = wholeS r := by show (if _ then _ else _) = _; rw [if_pos c1]
        refine ⟨_, rfl, a, _, rfl, .inr ha, rfl, _, rfl, ?_⟩
        by_cases h2 : r.length = 2
        · refine iteY ((L 2).trans (decide_eq_true h2)) ?_
          obtain ⟨t1, t2, rfl⟩ := two_of h2
          obtain ⟨y, z, rfl, i1, i2⟩ := are2 ar
          refine ⟨_, rfl, a, _, _, _, rfl, rfl, ha, at1, _, rfl, a, _, _, _, rfl, rfl, ha, at2, y, z, t1, t2, rfl, i1, i2, g1.1, g1.2.1, fun H1 s1 => ?_⟩
          have q' := q H1 s1
          rw [e0] at q'
          exact q'
        · refine iteN ((L 2).trans (decide_eq_false h2)) ?_
          have q' := q H (Same.refl H)
          rw [e0, wholeS_len h2] at q'
          exact q'
      refine ⟨_, rfl, k, _, ik, rfl, hu, _, rfl, ?_⟩
      refine ite2 (fun c2 => ?_) (fun c2 => ?_)
      · have e0 : shapeTh (.tup (k :: r)) = r.isEmpty := by show (if _ then _ else _) = _; rw [if_neg c1, if_pos c2]
        refine ⟨_, rfl, a, _, rfl, .inr ha, rfl, ?_⟩
        have q' := q H (Same.refl H)
        rw [e0, ← empty_len r, ← L 0] at q'
        exact q'
      refine ⟨_, rfl, k, _, ik, rfl, hu, _, rfl, ?_⟩
      refine ite2 (fun c3 => ?_) (fun c3 => ?_)
      · have e0 : shapeTh (.tup (k :: r)) = textS r := by show (if _ then _ else _) = _; rw [if_neg c1, if_neg c2, if_pos c3]
        refine ⟨_, rfl, a, _, rfl, .inr ha, rfl, _, rfl, ?_⟩
        by_cases h2 : r.length = 1
        · refine iteY ((L 1).trans (decide_eq_true h2)) ?_
          obtain ⟨t1, rfl⟩ := one_of h2
          obtain ⟨y, rfl, i1⟩ := are1 ar
          refine ⟨_, rfl, a, _, _, _, rfl, rfl, ha, at1, y, t1, _, _, rfl, i1, ?_⟩
          have q' := q H (Same.refl H)
          rw [e0] at q'
          exact q'
        · refine iteN ((L 1).trans (decide_eq_false h2)) ?_
          have q' := q H (Same.refl H)
          rw [e0, textS_len h2] at q'
          exact q'
      refine ⟨_, rfl, k, _, ik, rfl, hu, _, rfl, ?_⟩
      by_cases c4 : eqT k "row" = true
      · have e0 : shapeTh (.tup (k :: r)) = rowS r := by show (if _ then _ else _) = _; rw [if_neg c1, if_neg c2, if_neg c3, if_pos c4]
        refine iteY c4 (iteT ?_)
        refine ⟨_, rfl, a, _, rfl, .inr ha, rfl, _, rfl, ?_⟩
        by_cases h2 : r.length = 2
        · refine iteY ((L 2).trans (decide_eq_true h2)) ?_
          obtain ⟨t1, t2, rfl⟩ := two_of h2
          obtain ⟨y, z, rfl, i1, i2⟩ := are2 ar
          refine ⟨_, rfl, a, _, _, _, rfl, rfl, ha, at1, y, t1, rfl, i1, g1.1, fun H1 s1 => ⟨_, rfl, ?_⟩⟩
          refine ite2 (fun cn => ?_) (fun cn => ?_)
          · refine ⟨_, rfl, a, _, _, _, rfl, rfl, s1.up _ _ ha, at2, z, t2, _, _, rfl, IsTh.up s1.upT _ _ i2, ?_⟩
            have q' := q H1 s1
            rw [e0, show rowS [t1, t2] = (nameTh t1 && wholeTh 0 20 t2) from rfl, cn, Bool.true_and] at q'
            exact q'
          · have q' := q H1 s1
            rw [e0, show rowS [t1, t2] = (nameTh t1 && wholeTh 0 20 t2) from rfl, nf cn, Bool.false_and] at q'
            exact q'
        · refine iteN ((L 2).trans (decide_eq_false h2)) ?_
          have q' := q H (Same.refl H)
          rw [e0, rowS_len h2] at q'
          exact q'
      refine iteN (nf c4) ⟨_, rfl, k, _, ik, rfl, hu, _, rfl, ?_⟩
      by_cases c5 : eqT k "map" = true
      · have e0 : shapeTh (.tup (k :: r)) = rowS r := by show (if _ then _ else _) = _; rw [if_neg c1, if_neg c2, if_neg c3, if_neg c4, if_pos c5]
        refine iteY c5 ?_
        refine ⟨_, rfl, a, _, rfl, .inr ha, rfl, _, rfl, ?_⟩
        by_cases h2 : r.length = 2
        · refine iteY ((L 2).trans (decide_eq_true h2)) ?_
          obtain ⟨t1, t2, rfl⟩ := two_of h2
          obtain ⟨y, z, rfl, i1, i2⟩ := are2 ar
          refine ⟨_, rfl, a, _, _, _, rfl, rfl, ha, at1, y, t1, rfl, i1, g1.1, fun H1 s1 => ⟨_, rfl, ?_⟩⟩
          refine ite2 (fun cn => ?_) (fun cn => ?_)
          · refine ⟨_, rfl, a, _, _, _, rfl, rfl, s1.up _ _ ha, at2, z, t2, _, _, rfl, IsTh.up s1.upT _ _ i2, ?_⟩
            have q' := q H1 s1
            rw [e0, show rowS [t1, t2] = (nameTh t1 && wholeTh 0 20 t2) from rfl, cn, Bool.true_and] at q'
            exact q'
          · have q' := q H1 s1
            rw [e0, show rowS [t1, t2] = (nameTh t1 && wholeTh 0 20 t2) from rfl, nf cn, Bool.false_and] at q'
            exact q'
        · refine iteN ((L 2).trans (decide_eq_false h2)) ?_
          have q' := q H (Same.refl H)
          rw [e0, rowS_len h2] at q'
          exact q'
      refine iteN (nf c5) ⟨_, rfl, k, _, ik, rfl, hu, _, rfl, ?_⟩
      refine ite2 (fun c6 => ?_) (fun c6 => ?_)
      · have e0 : shapeTh (.tup (k :: r)) = recS r := by show (if _ then _ else _) = _; rw [if_neg c1, if_neg c2, if_neg c3, if_neg c4, if_neg c5, if_pos c6]
        refine ⟨_, rfl, a, _, rfl, .inr ha, rfl, _, rfl, ?_⟩
        by_cases h2 : r.length = 2
        · refine iteY ((L 2).trans (decide_eq_true h2)) ?_
          obtain ⟨t1, t2, rfl⟩ := two_of h2
          obtain ⟨y, z, rfl, i1, i2⟩ := are2 ar
          refine ⟨_, rfl, a, _, _, _, rfl, rfl, ha, at1, _, rfl, a, _, _, _, rfl, rfl, ha, at2, y, z, f1, true, t2, t1, rfl, l1, i1, i2, g1.1, g1.2.1, fun H1 s1 => ?_⟩
          have q' := q H1 s1
          rw [e0] at q'
          exact q'
        · refine iteN ((L 2).trans (decide_eq_false h2)) ?_
          have q' := q H (Same.refl H)
          rw [e0, recS_len h2] at q'
          exact q'
      refine ⟨_, rfl, k, _, ik, rfl, hu, _, rfl, ?_⟩
      refine ite2 (fun c7 => ?_) (fun c7 => ?_)
      · have e0 : shapeTh (.tup (k :: r)) = choS r := by show (if _ then _ else _) = _; rw [if_neg c1, if_neg c2, if_neg c3, if_neg c4, if_neg c5, if_neg c6, if_pos c7]
        refine ⟨_, rfl, a, _, rfl, .inr ha, rfl, _, rfl, ?_⟩
        by_cases h2 : r.length = 3
        · refine iteY ((L 3).trans (decide_eq_true h2)) ?_
          obtain ⟨t1, t2, t3, rfl⟩ := len3 h2
          obtain ⟨y, z, y3, rfl, i1, i2, i3⟩ := are3 ar
          refine ⟨_, rfl, a, _, _, _, rfl, rfl, ha, at1, _, rfl, a, _, _, _, rfl, rfl, ha, at2, y, z, f2, false, t2, t1, rfl, l2, i1, i2, g1.1, g1.2.1, fun H1 s1 => ⟨_, rfl, ?_⟩⟩
          refine ite2 (fun cn => ?_) (fun cn => ?_)
          · refine ⟨_, rfl, a, _, _, _, rfl, rfl, s1.up _ _ ha, at3, y3, _, t3, rfl, IsTh.up s1.upT _ _ i3, (by simp), ?_⟩
            have q' := q H1 s1
            rw [e0, show choS [t1, t2, t3] = (membersTh false t2 t1 && isiT "bool" t3) from rfl, cn, Bool.true_and] at q'
            exact q'
          · have q' := q H1 s1
            rw [e0, show choS [t1, t2, t3] = (membersTh false t2 t1 && isiT "bool" t3) from rfl, nf cn, Bool.false_and] at q'
            exact q'
        · refine iteN ((L 3).trans (decide_eq_false h2)) ?_
          have q' := q H (Same.refl H)
          rw [e0, choS_len h2] at q'
          exact q'
      have e0 : shapeTh (.tup (k :: r)) = false := by show (if _ then _ else _) = _; rw [if_neg c1, if_neg c2, if_neg c3, if_neg c4, if_neg c5, if_neg c6, if_neg c7]
      have q' := q H (Same.refl H)
      rw [e0] at q'
      exact q'
  | bl b => exact iteT (iteT (q H (Same.refl H)))
  | non => exact iteT (iteT (q H (Same.refl H)))
  | int x => exact iteT (iteT (q H (Same.refl H)))
  | str x => exact iteT (iteT (q H (Same.refl H)))
  | opq => exact iteT (iteT (q H (Same.refl H)))
end
end K19
namespace K19
open PySem PySem.Spec PyProof.Rows L2 K01
abbrev s_law_rise : Stmt := top 27
abbrev N_law_rise : List Str := ["_law_some"]
theorem sc_law_rise : FnScope N_law_rise ["_law_some"] (defScope s_law_rise) := ⟨rfl, rfl, rfl, by decide +kernel, rfl, by decide +kernel, by decide +kernel⟩
abbrev s_law_is_part : Stmt := top 37
abbrev N_law_is_part : List Str := ["_law_thing", "_law_many_here"]
theorem sc_law_is_part : FnScope N_law_is_part ["_law_thing", "_law_many_here"] (defScope s_law_is_part) := ⟨rfl, rfl, rfl, by decide +kernel, rfl, by decide +kernel, by decide +kernel⟩
def ups (ns : List Int) : List Bool := List.zipWith (fun i j => decide (i < j)) ns (ns.drop 1)
theorem ups_all (ns : List Int) : (ups ns).all id = risesTh (ns.map Th.int) := by
  unfold risesTh ups
  rw [← List.map_drop, List.zipWith_map]; rfl
theorem ups_len (ns : List Int) : (ups ns).length = ns.length - 1 := by
  unfold ups
  rw [List.length_zipWith, List.length_drop]; omega
theorem ups_get (ns : List Int) {i : Nat} (h : i + 1 < ns.length) : (ups ns)[i]? = some (decide (ns[i]'(by omega) < ns[i + 1])) := by
  unfold ups
  rw [List.getElem?_zipWith, List.getElem?_drop, List.getElem?_eq_getElem (show i < ns.length by omega), Nat.add_comm 1 i, List.getElem?_eq_getElem h]
theorem atMap (ns : List Int) {i : Nat} (h : i < ns.length) : atI (ns.map V.int) (i : Int) = some (.int ns[i]) := atI_nat (by rw [List.getElem?_map, List.getElem?_eq_getElem h]; rfl)
def spRise (K : PySem.W.Frag) : Sp := fun vs H Q E => ∃ b : Bool, True ∧ (if b = true then spRises K else spRisesT K) vs H Q E
section
variable {P : Program} {w : World} {K : PySem.W.Frag} {mg : Str → Option Value} {base : Heap} {f : Addr} {fd : FuncData}
theorem ok_riseL (F : Fun K "_law_rise" "_law_rise" s_law_rise f fd) (m : Bn mg) : FnOk P w K mg base CX0 1 f fd ["_law_some"] (spRises K) := by
  refine F.ok sc_law_rise (fun vs H Q E h => ?_) (fun cdv A outer s H vs Q E hr h => ?_)
  · obtain ⟨a, ts, ws, rfl, _⟩ := h
    rfl
  obtain ⟨a, ns, ws, rfl, ha, at', hl, q⟩ := h
  obtain rfl := are_ints at'
  have el : (((ns.map V.int).length : Int) - 1).toNat = ns.length - 1 := by rw [List.length_map]; omega
  refine ⟨_, (@pss_one _ _ _ (@ps_ret _ _ _ _ (@pe_callB _ _ _ _ _ _ _ _ _ (call_allB rfl) rfl m.all b_all (@pa_cons _ _ _ _ _ (@pe_compI _ N_law_rise (defScope s_law_rise) ["_law_k", "_law_some"] [none, some 0] _ _ _ _ _ _ _ _ _ _ rfl (@pi_range1 _ _ _ _ _ _ rfl m.range (@pa_cons _ _ _ _ _ (@pe_op _ _ _ _ _ _ _ _ op_sub (@pe_callB _ _ _ _ _ _ _ _ _ call_len_seq rfl m.len b_len (@pa_cons _ _ _ _ _ (pv 0) pa_nil rfl) (by decide) (by decide) rfl rfl) pe_int) pa_nil rfl) (by first | rfl | decide | (intro _; rfl) | exact .inl rfl | exact .inr rfl | assumption)) ⟨rfl, rfl, by decide +kernel, by decide +kernel⟩ (fun _ _ _ =>  (@pg_nameI _ 0 _ _ (show List.Nodup (["_law_k", "_law_some"] : List Str) from by decide +kernel) rfl (Or.inl rfl) (by first | exact .inl rfl | exact .inr rfl))) (fun _ _ _ =>  pts_nil) (fun _ _ _ =>  (@pe_cmpR _ _ _ _ _ _ _ _ op_lt (@pe_ix _ _ _ _ _ _ _ ix_list (pv 1) (pv 0) (fun _ _ =>  rfl)) (@pe_ix _ _ _ _ _ _ _ ix_list (pv 1) (@pe_op _ _ _ _ _ _ _ _ op_add (pv 0) pe_int) (fun _ _ =>  rfl)) (nomark _))) (by first | rfl | decide | (intro _; rfl) | exact .inl rfl | exact .inr rfl | assumption)) pa_nil rfl) (by decide) (by decide) rfl rfl))), ?_⟩
  refine ⟨_, rfl, a, _, rfl, .inl ha, _, _, rfl, rfl, _, rfl, ?_, ?_, fun D fp sx hD => ?_⟩
  · show -(2 ^ 62 : Int) ≤ ((ns.map V.int).length : Int) - 1
    rw [List.length_map]; omega
  · show ((ns.map V.int).length : Int) - 1 < (2 ^ 62 : Int)
    rw [List.length_map]; omega
  refine comp_range (fun i zs σ H5 => (∃ o, σ = [o, some (.ref a)]) ∧ zs = ((ups ns).take i).map V.bl ∧ Same H H5 ∧ H5 D = some (.lst zs)) ⟨⟨_, rfl⟩, rfl, (Same.refl H).put hD, upd_same⟩ ?_ ?_ ?_
  · rintro i zs σ H5 hi ⟨_, _, s5, h5⟩
    exact h5
  · rintro i zs σ H5 hi ⟨⟨o, rfl⟩, rfl, s5, h5⟩
    have hi : i < (((ns.map V.int).length : Int) - 1).toNat := hi
    rw [el] at hi
    have i1 : i + 1 < ns.length := by omega
    refine goAlways ?_
    refine ⟨_, rfl, _, rfl, a, _, _, _, rfl, rfl, s5.seq ha, by rw [Int.zero_add]; exact atMap ns (show i < ns.length by omega), _, rfl, _, rfl, _, _, rfl, rfl, a, _, _, _, rfl, rfl, s5.seq ha, by rw [Int.zero_add]; exact atMap ns i1, _, _, rfl, rfl, ?_⟩
    refine ⟨h5, ?_, ⟨_, rfl⟩, ?_, s5.put hD, upd_same⟩
    · rw [List.length_map, List.length_take, ups_len]; exact Nat.lt_of_le_of_lt (show _ ≤ 1000000 by omega) (by decide)
    · rw [take_more (ups_get ns i1), List.map_append]; rfl
  · rintro zs σ H5 ⟨_, rfl, s5, h5⟩
    refine ⟨D, _, rfl, SqL.of h5, ?_⟩
    rw [List.take_of_length_le (by rw [ups_len]; exact Nat.le_of_eq el.symm), ups_all]
    exact q H5 s5
theorem ok_riseT (F : Fun K "_law_rise" "_law_rise" s_law_rise f fd) (m : Bn mg) : FnOk P w K mg base CX0 1 f fd ["_law_some"] (spRisesT K) := by
  refine F.ok sc_law_rise (fun vs H Q E h => ?_) (fun cdv A outer s H vs Q E hr h => ?_)
  · obtain ⟨a, ts, ws, rfl, _⟩ := h
    rfl
  obtain ⟨a, ns, ws, rfl, ha, at', hl, q⟩ := h
  obtain rfl := are_ints at'
  have el : (((ns.map V.int).length : Int) - 1).toNat = ns.length - 1 := by rw [List.length_map]; omega
  refine ⟨_, (@pss_one _ _ _ (@ps_ret _ _ _ _ (@pe_callB _ _ _ _ _ _ _ _ _ (call_allB rfl) rfl m.all b_all (@pa_cons _ _ _ _ _ (@pe_compI _ N_law_rise (defScope s_law_rise) ["_law_k", "_law_some"] [none, some 0] _ _ _ _ _ _ _ _ _ _ rfl (@pi_range1 _ _ _ _ _ _ rfl m.range (@pa_cons _ _ _ _ _ (@pe_op _ _ _ _ _ _ _ _ op_sub (@pe_callB _ _ _ _ _ _ _ _ _ call_len_seq rfl m.len b_len (@pa_cons _ _ _ _ _ (pv 0) pa_nil rfl) (by decide) (by decide) rfl rfl) pe_int) pa_nil rfl) (by first | rfl | decide | (intro _; rfl) | exact .inl rfl | exact .inr rfl | assumption)) ⟨rfl, rfl, by decide +kernel, by decide +kernel⟩ (fun _ _ _ =>  (@pg_nameI _ 0 _ _ (show List.Nodup (["_law_k", "_law_some"] : List Str) from by decide +kernel) rfl (Or.inl rfl) (by first | exact .inl rfl | exact .inr rfl))) (fun _ _ _ =>  pts_nil) (fun _ _ _ =>  (@pe_cmpR _ _ _ _ _ _ _ _ op_lt (@pe_ix _ _ _ _ _ _ _ ix_tup (pv 1) (pv 0) (fun _ _ =>  rfl)) (@pe_ix _ _ _ _ _ _ _ ix_tup (pv 1) (@pe_op _ _ _ _ _ _ _ _ op_add (pv 0) pe_int) (fun _ _ =>  rfl)) (nomark _))) (by first | rfl | decide | (intro _; rfl) | exact .inl rfl | exact .inr rfl | assumption)) pa_nil rfl) (by decide) (by decide) rfl rfl))), ?_⟩
  refine ⟨_, rfl, a, _, rfl, .inr ha, _, _, rfl, rfl, _, rfl, ?_, ?_, fun D fp sx hD => ?_⟩
  · show -(2 ^ 62 : Int) ≤ ((ns.map V.int).length : Int) - 1
    rw [List.length_map]; omega
  · show ((ns.map V.int).length : Int) - 1 < (2 ^ 62 : Int)
    rw [List.length_map]; omega
  refine comp_range (fun i zs σ H5 => (∃ o, σ = [o, some (.ref a)]) ∧ zs = ((ups ns).take i).map V.bl ∧ Same H H5 ∧ H5 D = some (.lst zs)) ⟨⟨_, rfl⟩, rfl, (Same.refl H).put hD, upd_same⟩ ?_ ?_ ?_
  · rintro i zs σ H5 hi ⟨_, _, s5, h5⟩
    exact h5
  · rintro i zs σ H5 hi ⟨⟨o, rfl⟩, rfl, s5, h5⟩
    have hi : i < (((ns.map V.int).length : Int) - 1).toNat := hi
    rw [el] at hi
    have i1 : i + 1 < ns.length := by omega
    refine goAlways ?_
    refine ⟨_, rfl, _, rfl, a, _, _, _, rfl, rfl, s5.up _ _ ha, by rw [Int.zero_add]; exact atMap ns (show i < ns.length by omega), _, rfl, _, rfl, _, _, rfl, rfl, a, _, _, _, rfl, rfl, s5.up _ _ ha, by rw [Int.zero_add]; exact atMap ns i1, _, _, rfl, rfl, ?_⟩
    refine ⟨h5, ?_, ⟨_, rfl⟩, ?_, s5.put hD, upd_same⟩
    · rw [List.length_map, List.length_take, ups_len]; exact Nat.lt_of_le_of_lt (show _ ≤ 1000000 by omega) (by decide)
    · rw [take_more (ups_get ns i1), List.map_append]; rfl
  · rintro zs σ H5 ⟨_, rfl, s5, h5⟩
    refine ⟨D, _, rfl, SqL.of h5, ?_⟩
    rw [List.take_of_length_le (by rw [ups_len]; exact Nat.le_of_eq el.symm), ups_all]
    exact q H5 s5
theorem ok_rise (F : Fun K "_law_rise" "_law_rise" s_law_rise f fd) (m : Bn mg) : FnOk P w K mg base CX0 1 f fd ["_law_some"] (spRise K) :=
  FnOk.any (C := fun _ => True) (sp := fun b : Bool => if b = true then spRises K else spRisesT K) fun b _ => by
    cases b
    · exact ok_riseT F m
    · exact ok_riseL F m
end
end K19
namespace K19
open PySem PySem.Spec PyProof.Rows L2 K01
def manyOf (b : Bool) : Nat := if b = true then 4 else 3
theorem memb_len {b : Bool} {ts : List Th} (h : ts.length ≠ manyOf b) : membTh b (.tup ts) = false := by
  cases b
  · exact arm_len h
  · exact field_len h
theorem many_form {b : Bool} {ts : List Th} (h : ts.length = manyOf b) : ∃ t1 t2 t3 r, ts = t1 :: t2 :: t3 :: r ∧ ((b = false ∧ r = []) ∨ (b = true ∧ ∃ d, r = [d])) := by
  cases b
  · obtain ⟨a, b, c, rfl⟩ := len3 h
    exact ⟨a, b, c, [], rfl, .inl ⟨rfl, rfl⟩⟩
  · obtain ⟨a, b, c, d, rfl⟩ := len4 h
    exact ⟨a, b, c, [d], rfl, .inr ⟨rfl, d, rfl⟩⟩
def spPart2 (K : PySem.W.Frag) : Sp := fun vs H Q _ => ∃ v t b, vs = [v, .int (manyOf b : Int)] ∧ IsTh K H t v ∧ gdT t ∧ ∀ H', Same H H' → Q (.bl (membTh b t)) H'
section
variable {P : Program} {w : World} {K : PySem.W.Frag} {mg : Str → Option Value} {base : Heap} {f : Addr} {fd : FuncData}
theorem ok_is_part (F : Fun K "_law_is_part" "_law_is_part" s_law_is_part f fd) (m : Bn mg) (g_law_whole : Fn P w K mg base 1 "_law_whole" ["_law_thing", "_law_low", "_law_high"] (spWhole K)) (g_law_is_name : Fn P w K mg base 1 "_law_is_name" ["_law_thing"] (spName K)) : FnOk P w K mg base CX0 2 f fd ["_law_thing", "_law_many_here"] (spPart2 K) := by
  refine F.ok sc_law_is_part (fun vs H Q E h => ?_) (fun cdv A outer s H vs Q E hr h => ?_)
  · obtain ⟨v, t, b, rfl, _⟩ := h
    rfl
  obtain ⟨v, t, b, rfl, ht, gd, q⟩ := h
  refine ⟨_, (@pss_cons _ _ _ _ _ (@ps_if _ _ _ _ _ _ _ _ (@PW.pt _ _ _ (@pw_or _ _ _ _ _ _ _ (@pt_not _ _ _ _ (@pt_val _ _ _ (@pe_callB _ _ _ _ _ _ _ _ _ call_isiTh rfl m.isinstance b_isinstance (@pa_cons _ _ _ _ _ (pv 0) (@pa_cons _ _ _ _ _ (@pe_bltnT _ _ _ _ rfl m.tuple b_tuple (by decide) (by decide)) pa_nil rfl) rfl) (by decide) (by decide) rfl rfl) (by intro _; rfl))) (@pw_or _ _ _ _ _ _ _ (@pt_cmpR _ _ _ _ _ _ _ _ op_ne (@pe_callB _ _ _ _ _ _ _ _ _ call_len_seq rfl m.len b_len (@pa_cons _ _ _ _ _ (pv 0) pa_nil rfl) (by decide) (by decide) rfl rfl) (pv 1) (nomark _)) (@pw_or1 _ _ _ _ (@pt_not _ _ _ _ (@pt_val _ _ _ (@pe_callF _ _ _ _ _ _ _ _ _ _ g_law_whole (hr.mono (by omega)) rfl (@pa_cons _ _ _ _ _ (@pe_ix _ _ _ _ _ _ _ ix_tup (pv 0) pe_int (fun _ _ =>  rfl)) (@pa_cons _ _ _ _ _ pe_int (@pa_cons _ _ _ _ _ pe_int pa_nil rfl) rfl) rfl) (by decide) rfl rfl) (by intro _; rfl))))))) (@pss_one _ _ _ (@ps_ret _ _ _ _ pe_bl)) pss_nil) (@pss_cons _ _ _ _ _ (@ps_if _ _ _ _ _ _ _ _ (@PW.pt _ _ _ (@pw_and _ _ _ _ _ _ _ (@pt_cmpR _ _ _ _ _ _ _ _ op_eq (pv 1) pe_int (nomark _)) (@pw_and1 _ _ _ _ (@PW.pt _ _ _ (@pw_or _ _ _ _ _ _ _ (@pt_not _ _ _ _ (@pt_val _ _ _ (@pe_callB _ _ _ _ _ _ _ _ _ call_isiTh rfl m.isinstance b_isinstance (@pa_cons _ _ _ _ _ (@pe_ix _ _ _ _ _ _ _ ix_tup (pv 0) pe_int (fun _ _ =>  rfl)) (@pa_cons _ _ _ _ _ (@pe_bltnT _ _ _ _ rfl m.tuple b_tuple (by decide) (by decide)) pa_nil rfl) rfl) (by decide) (by decide) rfl rfl) (by intro _; rfl))) (@pw_or1 _ _ _ _ (@pt_cmpR _ _ _ _ _ _ _ _ op_gt (@pe_callB _ _ _ _ _ _ _ _ _ call_len_seq rfl m.len b_len (@pa_cons _ _ _ _ _ (@pe_ix _ _ _ _ _ _ _ ix_tup (pv 0) pe_int (fun _ _ =>  rfl)) pa_nil rfl) (by decide) (by decide) rfl rfl) pe_int (nomark _)))))))) (@pss_one _ _ _ (@ps_ret _ _ _ _ pe_bl)) pss_nil) (@pss_one _ _ _ (@ps_ret _ _ _ _ (@pe_and _ _ _ _ _ _ _ (@pe_callF _ _ _ _ _ _ _ _ _ _ g_law_is_name (hr.mono (by omega)) rfl (@pa_cons _ _ _ _ _ (@pe_ix _ _ _ _ _ _ _ ix_tup (pv 0) pe_int (fun _ _ =>  rfl)) pa_nil rfl) (by decide) rfl rfl) (@pe_one _ _ _ _ _ (@pe_callF _ _ _ _ _ _ _ _ _ _ g_law_is_name (hr.mono (by omega)) rfl (@pa_cons _ _ _ _ _ (@pe_ix _ _ _ _ _ _ _ ix_tup (pv 0) pe_int (fun _ _ =>  rfl)) pa_nil rfl) (by decide) rfl rfl))))))), ?_⟩
  refine ⟨_, rfl, _, _, t, rfl, ht, (by simp), _, rfl, ?_⟩
  have q0 := q H (Same.refl H)
  cases t with
  | tup ts =>
    obtain ⟨a, ws, rfl, ha, at'⟩ := ht
    refine iteF ⟨_, rfl, a, ws, rfl, .inr ha, _, rfl, rfl, _, rfl, ?_⟩
    by_cases hm : ts.length = manyOf b
    · refine iteN (by
        rw [← at'.length, hm]
        show (!decide (_ = _)) = false
        rw [decide_eq_true rfl]; rfl) ?_
      obtain ⟨t1, t2, t3, r, rfl, hb⟩ := many_form hm
      obtain ⟨x, ws, rfl, i1, y, ws, rfl, i2, z, ws, rfl, i3, ar⟩ := at'
      refine ⟨_, rfl, a, _, _, _, rfl, rfl, ha, at0, x, t1, _, _, rfl, i1, _, rfl, ?_⟩
      by_cases c1 : wholeTh 1 999 t1 = true
      · refine iteN (by rw [c1]; rfl) ?_
        rcases hb with ⟨rfl, rfl⟩ | ⟨rfl, d, rfl⟩
        · have eM : membTh false (.tup [t1, t2, t3]) = (wholeTh 1 999 t1 && nameTh t2 && nameTh t3) := rfl
          refine ⟨_, rfl, rfl, _, rfl, iteN (by decide) (iteF ?_)⟩
          refine ⟨_, rfl, a, _, _, _, rfl, rfl, ha, at1, y, t2, rfl, i2, gd.2.1, fun H1 s1 => ⟨_, rfl, ?_⟩⟩
          refine ite2 (fun c2 => ?_) (fun c2 => ?_)
          · refine ⟨_, rfl, a, _, _, _, rfl, rfl, s1.up _ _ ha, at2, z, t3, rfl, IsTh.up s1.upT _ _ i3, gd.2.2.1, fun H2 s2 => ?_⟩
            have q' := q H2 (s1.trans s2)
            rw [eM, c1, c2, Bool.true_and, Bool.true_and] at q'
            exact q'
          · have q' := q H1 s1
            rw [eM, c1, nf c2, Bool.true_and, Bool.false_and] at q'
            exact q'
        · obtain ⟨u, ws', rfl, i4, _⟩ := ar
          refine ⟨_, rfl, rfl, _, rfl, iteY (by decide) ⟨_, rfl, a, _, _, _, rfl, rfl, ha, at3, _, _, d, rfl, i4, (by simp), _, rfl, ?_⟩⟩
          by_cases cd : defTh d = true
          · have eM : membTh true (.tup [t1, t2, t3, d]) = (wholeTh 1 999 t1 && nameTh t2 && nameTh t3) := by
              show ((wholeTh 1 999 t1 && nameTh t2 && nameTh t3) && defTh d) = _
              rw [cd, Bool.and_true]
            obtain ⟨ds, rfl⟩ : ∃ ds, d = .tup ds := by
              cases d with
              | tup ds => exact ⟨ds, rfl⟩
              | bl _ => cases cd
              | _ => cases cd
            obtain ⟨p4, w4, rfl, h4, a4⟩ := i4
            refine iteF ⟨_, rfl, a, _, _, _, rfl, rfl, ha, at3, p4, w4, rfl, .inr h4, _, _, rfl, rfl, _, rfl, iteN ?_ ?_⟩
            · rw [← a4.length]
              have : ds.length ≤ 1 := of_decide_eq_true cd
              exact decide_eq_false (by omega)
            refine ⟨_, rfl, a, _, _, _, rfl, rfl, ha, at1, y, t2, rfl, i2, gd.2.1, fun H1 s1 => ⟨_, rfl, ?_⟩⟩
            refine ite2 (fun c2 => ?_) (fun c2 => ?_)
            · refine ⟨_, rfl, a, _, _, _, rfl, rfl, s1.up _ _ ha, at2, z, t3, rfl, IsTh.up s1.upT _ _ i3, gd.2.2.1, fun H2 s2 => ?_⟩
              have q' := q H2 (s1.trans s2)
              rw [eM, c1, c2, Bool.true_and, Bool.true_and] at q'
              exact q'
            · have q' := q H1 s1
              rw [eM, c1, nf c2, Bool.true_and, Bool.false_and] at q'
              exact q'
          · have eM : membTh true (.tup [t1, t2, t3, d]) = false := by
              show ((wholeTh 1 999 t1 && nameTh t2 && nameTh t3) && defTh d) = _
              rw [nf cd, Bool.and_false]
            rw [eM] at q0
            cases d with
            | tup ds =>
              obtain ⟨p4, w4, rfl, h4, a4⟩ := i4
              refine iteF ⟨_, rfl, a, _, _, _, rfl, rfl, ha, at3, p4, w4, rfl, .inr h4, _, _, rfl, rfl, _, rfl, iteY ?_ q0⟩
              rw [← a4.length]
              have : ¬ ds.length ≤ 1 := of_decide_eq_false (nf cd)
              exact decide_eq_true (by omega)
            | bl _ => exact iteT (iteT q0)
            | non => exact iteT (iteT q0)
            | int _ => exact iteT (iteT q0)
            | str _ => exact iteT (iteT q0)
            | opq => exact iteT (iteT q0)
      · refine iteY (by rw [nf c1]; rfl) ?_
        have e : membTh b (.tup (t1 :: t2 :: t3 :: r)) = false := by
          rcases hb with ⟨rfl, rfl⟩ | ⟨rfl, d, rfl⟩
          · show (wholeTh 1 999 t1 && nameTh t2 && nameTh t3) = false
            rw [nf c1]; rfl
          · show ((wholeTh 1 999 t1 && nameTh t2 && nameTh t3) && defTh d) = false
            rw [nf c1]; rfl
        rw [e] at q0
        exact q0
    · refine iteY (by
        rw [← at'.length]
        show (!decide (_ = _)) = true
        rw [decide_eq_false (fun z => hm (by injection z with z; omega))]; rfl) ?_
      rw [memb_len hm] at q0
      exact iteT q0
  | bl b' => cases b <;> exact iteT (iteT q0)
  | non => cases b <;> exact iteT (iteT q0)
  | int x => cases b <;> exact iteT (iteT q0)
  | str x => cases b <;> exact iteT (iteT q0)
  | opq => cases b <;> exact iteT (iteT q0)
end
end K19
namespace K19
open PySem PySem.Spec PyProof.Rows L2 K01
abbrev s_law_are_parts : Stmt := top 38
abbrev N_law_are_parts : List Str := ["_law_thing", "_law_struck_here", "_law_many_here", "_law_numbers_here"]
theorem sc_law_are_parts : FnScope N_law_are_parts ["_law_thing", "_law_struck_here", "_law_many_here"] (defScope s_law_are_parts) := ⟨rfl, rfl, rfl, by decide +kernel, rfl, by decide +kernel, by decide +kernel⟩
def spParts (K : PySem.W.Frag) : Sp := fun vs H Q _ => ∃ u v b s t, vs = [u, v, .int (manyOf b : Int)] ∧ IsTh K H t u ∧ IsTh K H s v ∧ gdT t ∧ gdT s ∧ ∀ H', Same H H' → Q (.bl (membersTh b s t)) H'
theorem struck_no {ns : List Int} {t : Th} (h : isiT "tuple" t = false) : struckTh ns t = false := by
  cases t with
  | tup ts => cases h
  | bl _ => rfl
  | _ => rfl
theorem members_no {b : Bool} {s t : Th} (h : isiT "tuple" t = false) : membersTh b s t = false := by
  cases t with
  | tup ts => cases h
  | bl _ => rfl
  | _ => rfl
theorem members_st {b : Bool} {s : Th} {ts : List Th} (h : struckTh (ts.map fun t => iOf (numTh t)) s = false) : membersTh b s (.tup ts) = false := by
  show ((_ && _) && (_ && (_ && struckTh (ts.map fun t => iOf (numTh t)) s))) = false
  rw [h, Bool.and_false, Bool.and_false, Bool.and_false]
theorem all_split {us : List Th} {q : Th → Bool} : us.all (fun u => wholeTh 1 999 u && !q u) = (us.all (wholeTh 1 999) && !us.any q) := by
  induction us with
  | nil => rfl
  | cons u us ih =>
    rw [List.all_cons, List.all_cons, List.any_cons, ih]
    cases wholeTh 1 999 u <;> cases q u <;> cases us.all (wholeTh 1 999) <;> cases us.any q <;> rfl
section
variable {P : Program} {w : World} {K : PySem.W.Frag} {mg : Str → Option Value} {base : Heap} {f : Addr} {fd : FuncData}
theorem ok_are_parts (F : Fun K "_law_are_parts" "_law_are_parts" s_law_are_parts f fd) (m : Bn mg) (g_law_whole : Fn P w K mg base 1 "_law_whole" ["_law_thing", "_law_low", "_law_high"] (spWhole K)) (g_law_is_part : Fn P w K mg base 2 "_law_is_part" ["_law_thing", "_law_many_here"] (spPart2 K))
    (g_law_rise : Fn P w K mg base 1 "_law_rise" ["_law_some"] (spRise K)) : FnOk P w K mg base CX0 3 f fd ["_law_thing", "_law_struck_here", "_law_many_here"] (spParts K) := by
  refine F.ok sc_law_are_parts (fun vs H Q E h => ?_) (fun cdv A outer s H vs Q E hr h => ?_)
  · obtain ⟨u, v, b, s, t, rfl, _⟩ := h
    rfl
  obtain ⟨u, v, b, st, t, rfl, ht, hs, gt, gs, q⟩ := h
  refine ⟨_, (@pss_cons _ _ _ _ _ (@ps_if _ _ _ _ _ _ _ _ (@PW.pt _ _ _ (@pw_or _ _ _ _ _ _ _ (@pt_not _ _ _ _ (@pt_val _ _ _ (@pe_callB _ _ _ _ _ _ _ _ _ call_isiTh rfl m.isinstance b_isinstance (@pa_cons _ _ _ _ _ (pv 0) (@pa_cons _ _ _ _ _ (@pe_bltnT _ _ _ _ rfl m.tuple b_tuple (by decide) (by decide)) pa_nil rfl) rfl) (by decide) (by decide) rfl rfl) (by intro _; rfl))) (@pw_or _ _ _ _ _ _ _ (@pt_not _ _ _ _ (@pt_val _ _ _ (@pe_callB _ _ _ _ _ _ _ _ _ call_isiTh rfl m.isinstance b_isinstance (@pa_cons _ _ _ _ _ (pv 1) (@pa_cons _ _ _ _ _ (@pe_bltnT _ _ _ _ rfl m.tuple b_tuple (by decide) (by decide)) pa_nil rfl) rfl) (by decide) (by decide) rfl rfl) (by intro _; rfl))) (@pw_or1 _ _ _ _ (@pt_cmpR _ _ _ _ _ _ _ _ op_gt (@pe_callB _ _ _ _ _ _ _ _ _ (call_max2 rfl) rfl m.max b_max (@pa_cons _ _ _ _ _ (@pe_callB _ _ _ _ _ _ _ _ _ call_len_seq rfl m.len b_len (@pa_cons _ _ _ _ _ (pv 0) pa_nil rfl) (by decide) (by decide) rfl rfl) (@pa_cons _ _ _ _ _ (@pe_callB _ _ _ _ _ _ _ _ _ call_len_seq rfl m.len b_len (@pa_cons _ _ _ _ _ (pv 1) pa_nil rfl) (by decide) (by decide) rfl rfl) pa_nil rfl) rfl) (by decide) (by decide) rfl rfl) pe_int (nomark _)))))) (@pss_one _ _ _ (@ps_ret _ _ _ _ pe_bl)) pss_nil) (@pss_cons _ _ _ _ _ (@ps_if _ _ _ _ _ _ _ _ (@pt_not _ _ _ _ (@pt_val _ _ _ (@pe_callB _ _ _ _ _ _ _ _ _ (call_allB rfl) rfl m.all b_all (@pa_cons _ _ _ _ _ (@pe_compI _ N_law_are_parts (defScope s_law_are_parts) ["_law_one", "_law_many_here"] [none, some 2] _ _ _ _ _ _ _ _ _ _ rfl (@pi_tup _ _ _ _ (pv 0)) ⟨rfl, rfl, by decide +kernel, by decide +kernel⟩ (fun _ _ _ =>  (@pg_nameI _ 0 _ _ (show List.Nodup (["_law_one", "_law_many_here"] : List Str) from by decide +kernel) rfl (Or.inl rfl) (by first | exact .inl rfl | exact .inr rfl))) (fun _ _ _ =>  pts_nil) (fun _ _ _ =>  (@pe_callF _ _ _ _ _ _ _ _ _ _ g_law_is_part (hr.mono (by omega)) rfl (@pa_cons _ _ _ _ _ (pv 0) (@pa_cons _ _ _ _ _ (pv 1) pa_nil rfl) rfl) (by decide) rfl rfl)) (by first | rfl | decide | (intro _; rfl) | exact .inl rfl | exact .inr rfl | assumption)) pa_nil rfl) (by decide) (by decide) rfl rfl) (by intro _; rfl))) (@pss_one _ _ _ (@ps_ret _ _ _ _ pe_bl)) pss_nil) (@pss_cons _ _ _ _ _ (@ps_setI _ 3 _ _ _ _ _ sc_law_are_parts.nd rfl (by first | exact Or.inl rfl | exact Or.inr rfl) (@pe_compI _ N_law_are_parts (defScope s_law_are_parts) ["_law_one"] [none] _ _ _ _ _ _ _ _ _ _ rfl (@pi_tup _ _ _ _ (pv 0)) ⟨rfl, rfl, by decide +kernel, by decide +kernel⟩ (fun _ _ _ =>  (@pg_nameI _ 0 _ _ (show List.Nodup (["_law_one"] : List Str) from by decide +kernel) rfl (Or.inl rfl) (by first | exact .inl rfl | exact .inr rfl))) (fun _ _ _ =>  pts_nil) (fun _ _ _ =>  (@pe_ix _ _ _ _ _ _ _ ix_tup (pv 0) pe_int (fun _ _ =>  rfl))) (by first | rfl | decide | (intro _; rfl) | exact .inl rfl | exact .inr rfl | assumption)) rfl (by first | exact .inl rfl | exact .inr rfl)) (@pss_cons _ _ _ _ _ (@ps_if _ _ _ _ _ _ _ _ (@PW.pt _ _ _ (@pw_or _ _ _ _ _ _ _ (@pt_not _ _ _ _ (@pt_val _ _ _ (@pe_callF _ _ _ _ _ _ _ _ _ _ g_law_rise (hr.mono (by omega)) rfl (@pa_cons _ _ _ _ _ (pv 3) pa_nil rfl) (by decide) rfl rfl) (by intro _; rfl))) (@pw_or1 _ _ _ _ (@pt_cmpR _ _ _ _ _ _ _ _ op_ne (@pe_callB _ _ _ _ _ _ _ _ _ call_lenSet rfl m.len b_len (@pa_cons _ _ _ _ _ (@pe_callTy _ _ _ _ _ _ _ _ _ (call_setK rfl) rfl m.set b_set (@pa_cons _ _ _ _ _ (@pe_compI _ N_law_are_parts (defScope s_law_are_parts) ["_law_one"] [none] _ _ _ _ _ _ _ _ _ _ rfl (@pi_tup _ _ _ _ (pv 0)) ⟨rfl, rfl, by decide +kernel, by decide +kernel⟩ (fun _ _ _ =>  (@pg_nameI _ 0 _ _ (show List.Nodup (["_law_one"] : List Str) from by decide +kernel) rfl (Or.inl rfl) (by first | exact .inl rfl | exact .inr rfl))) (fun _ _ _ =>  pts_nil) (fun _ _ _ =>  (@pe_ix _ _ _ _ _ _ _ ix_tup (pv 0) pe_int (fun _ _ =>  rfl))) (by first | rfl | decide | (intro _; rfl) | exact .inl rfl | exact .inr rfl | assumption)) pa_nil rfl) (by first | rfl | decide | (intro _; rfl) | exact .inl rfl | exact .inr rfl | assumption) (by first | rfl | decide | (intro _; rfl) | exact .inl rfl | exact .inr rfl | assumption) (by first | rfl | decide | (intro _; rfl) | exact .inl rfl | exact .inr rfl | assumption) (by first | rfl | decide | (intro _; rfl) | exact .inl rfl | exact .inr rfl | assumption)) pa_nil rfl) (by decide) (by decide) rfl rfl) (@pe_callB _ _ _ _ _ _ _ _ _ call_len_seq rfl m.len b_len (@pa_cons _ _ _ _ _ (pv 0) pa_nil rfl) (by decide) (by decide) rfl rfl) (nomark _))))) (@pss_one _ _ _ (@ps_ret _ _ _ _ pe_bl)) pss_nil) (@pss_cons _ _ _ _ _ (@ps_if _ _ _ _ _ _ _ _ (@pt_not _ _ _ _ (@pt_val _ _ _ (@pe_callB _ _ _ _ _ _ _ _ _ (call_allB rfl) rfl m.all b_all (@pa_cons _ _ _ _ _ (@pe_compI _ N_law_are_parts (defScope s_law_are_parts) ["_law_one", "_law_numbers_here"] [none, some 3] _ _ _ _ _ _ _ _ _ _ rfl (@pi_tup _ _ _ _ (pv 1)) ⟨rfl, rfl, by decide +kernel, by decide +kernel⟩ (fun _ _ _ =>  (@pg_nameI _ 0 _ _ (show List.Nodup (["_law_one", "_law_numbers_here"] : List Str) from by decide +kernel) rfl (Or.inl rfl) (by first | exact .inl rfl | exact .inr rfl))) (fun _ _ _ =>  pts_nil) (fun _ _ _ =>  (@pe_and _ _ _ _ _ _ _ (@pe_callF _ _ _ _ _ _ _ _ _ _ g_law_whole (hr.mono (by omega)) rfl (@pa_cons _ _ _ _ _ (pv 0) (@pa_cons _ _ _ _ _ pe_int (@pa_cons _ _ _ _ _ pe_int pa_nil rfl) rfl) rfl) (by decide) rfl rfl) (@pe_one _ _ _ _ _ (@pe_cmpR _ _ _ _ _ _ _ _ op_notIn_seq (pv 0) (pv 1) rfl)))) (by first | rfl | decide | (intro _; rfl) | exact .inl rfl | exact .inr rfl | assumption)) pa_nil rfl) (by decide) (by decide) rfl rfl) (by intro _; rfl))) (@pss_one _ _ _ (@ps_ret _ _ _ _ pe_bl)) pss_nil) (@pss_one _ _ _ (@ps_ret _ _ _ _ (@pe_callF _ _ _ _ _ _ _ _ _ _ g_law_rise (hr.mono (by omega)) rfl (@pa_cons _ _ _ _ _ (pv 1) pa_nil rfl) (by decide) rfl rfl)))))))), ?_⟩
  refine ⟨_, rfl, _, _, t, rfl, ht, (by simp), _, rfl, ?_⟩
  have q0 := q H (Same.refl H)
  by_cases h1 : isiT "tuple" t = true
  · refine iteN (by rw [h1]; rfl) ⟨_, rfl, _, _, st, rfl, hs, (by simp), _, rfl, ?_⟩
    obtain ⟨ts, rfl⟩ := ts_of h1
    by_cases h2 : isiT "tuple" st = true
    · obtain ⟨us, rfl⟩ := ts_of h2
      obtain ⟨a, ws, rfl, ha, at'⟩ := ht
      obtain ⟨a2, ws2, rfl, ha2, at2'⟩ := hs
      refine iteF ⟨_, rfl, a, ws, rfl, .inr ha, _, rfl, a2, ws2, rfl, .inr ha2, _, _, rfl, _, _, rfl, rfl, _, rfl, ?_⟩
      by_cases h8 : ts.length ≤ 8 ∧ us.length ≤ 8
      · refine iteN (by
          rw [← at'.length, ← at2'.length]
          exact decide_eq_false (by split <;> omega)) ?_
        have l1 : ts.length ≤ 1000000 := Nat.le_trans h8.1 (by decide)
        have l2 : us.length ≤ 1000000 := Nat.le_trans h8.2 (by decide)
        refine ⟨_, rfl, a, rfl, ⟨ws, ha⟩, fun D fp sx hD => ?_⟩
        refine compB_tup (p := membTh b) ha at' l1 hD (fun t v H5 Q5 mt s5 i5 q5 => ?_) fun H6 s6 h6 => ⟨D, _, rfl, SqL.of h6, _, rfl, ?_⟩
        · exact ⟨_, rfl, _, rfl, v, t, b, rfl, i5, gdTs_all.mp gt t mt, q5⟩
        have e6 : (ts.map (membTh b)).all id = ts.all (membTh b) := by rw [List.all_map]; rfl
        rw [e6]
        cases cw : ts.all (membTh b) with
        | false =>
          refine iteT ?_
          have e : membersTh b (.tup us) (.tup ts) = false := by
            show ((decide (ts.length ≤ 8) && ts.all (membTh b)) && _) = false
            rw [cw, Bool.and_false]; rfl
          rw [← e]
          exact q H6 s6
        | true =>
          have e0 : membersTh b (.tup us) (.tup ts) = (risesTh (ts.map numTh) && (decide ((ts.map fun t => kOf (namTh t)).Nodup) && struckTh (ts.map fun t => iOf (numTh t)) (.tup us))) := by
            show ((decide (ts.length ≤ 8) && ts.all (membTh b)) && _) = _
            rw [decide_eq_true h8.1, cw]; rfl
          refine iteF ⟨_, rfl, a, rfl, ⟨ws, s6.up _ _ ha⟩, fun D fp sx hD => ?_⟩
          refine compT_tup (f := numTh) (s6.up _ _ ha) (AreTh.up s6.upT _ _ at') l1 hD (fun t v H5 Q5 mt s5 i5 q5 => ?_) fun H7 w7 s7 h7 a7 => ?_
          · obtain ⟨i, x, r, rfl⟩ := memb_form (List.all_eq_true.mp cw t mt)
            obtain ⟨p, xs, rfl, hp, y, ys, rfl, iy, _⟩ := i5
            exact ⟨_, rfl, p, _, _, _, rfl, rfl, hp, at0, q5 y H5 (Same.refl H5) iy⟩
          have s17 := s6.trans s7
          have en := nums_eq cw
          rw [en] at a7
          have ew := are_ints a7
          subst ew
          refine ⟨_, rfl, true, trivial, D, _, _, rfl, SqL.of h7, a7, ?_, fun H8 s8 => ⟨_, rfl, ?_⟩⟩
          · rw [List.length_map]; exact l1
          rw [← en]
          have s18 := s17.trans s8
          by_cases cr : risesTh (ts.map numTh) = true
          · refine iteN (by rw [cr]; rfl) ⟨_, rfl, a, rfl, ⟨ws, s18.up _ _ ha⟩, fun D2 fp sx hD2 => ?_⟩
            refine compT_tup (f := namTh) (s18.up _ _ ha) (AreTh.up s18.upT _ _ at') l1 hD2 (fun t v H5 Q5 mt s5 i5 q5 => ?_) fun H9 w9 s9 h9 a9 => ?_
            · obtain ⟨i, x, r, rfl⟩ := memb_form (List.all_eq_true.mp cw t mt)
              obtain ⟨p, xs, rfl, hp, y, ys, rfl, _, z, zs, rfl, iz, _⟩ := i5
              exact ⟨_, rfl, p, _, _, _, rfl, rfl, hp, at1, q5 z H5 (Same.refl H5) iz⟩
            have s19 := s18.trans s9
            have ek := are_names cw a9
            subst ek
            refine ⟨D2, _, rfl, SqL.of h9, ?_, fun l us' hl nd mm le => ?_⟩
            · rw [List.length_map]; exact Nat.lt_of_le_of_lt (Nat.succ_le_succ h8.1) (by decide)
            have sA := Same.lay (o := SetHO P w l us') hl
            have sB := s19.trans sA
            refine ⟨l, us', rfl, upd_same, _, rfl, a, ws, rfl, .inr (sB.up _ _ ha), rfl, _, rfl, ?_⟩
            have ed : decide (V.int us'.length = V.int ws.length) = decide (ts.map fun t => kOf (namTh t)).Nodup := by
              have z := dist_len nd mm le
              rw [List.length_map] at z
              rw [← at'.length]; exact z
            by_cases cd : (ts.map fun t => kOf (namTh t)).Nodup
            · refine iteN (by rw [ed, decide_eq_true cd]; rfl) ⟨_, rfl, a2, rfl, ⟨ws2, sB.up _ _ ha2⟩, fun D3 fp sx hD3 => ?_⟩
              have hD7 : SqL K _ D ((ts.map fun t => iOf (numTh t)).map V.int) := (s8.trans (s9.trans sA)).seq (SqL.of h7)
              refine compB_tup (p := fun u => wholeTh 1 999 u && !inV (.int (iOf u)) ((ts.map fun t => iOf (numTh t)).map V.int)) (sB.up _ _ ha2) (AreTh.up sB.upT _ _ at2') l2 hD3 (fun t v H5 Q5 mt s5 i5 q5 => ?_) fun HA sC hA => ⟨D3, _, rfl, SqL.of hA, _, rfl, ?_⟩
              · refine ⟨_, rfl, v, t, _, _, rfl, i5, _, rfl, ?_⟩
                refine ite2 (fun c1 => ?_) (fun c1 => ?_)
                · have et := wh_int c1
                  have i5' := i5
                  rw [et] at i5'
                  cases (show v = .int (iOf t) from i5')
                  refine ⟨_, rfl, _, rfl, D, _, rfl, .inl (s5.seq hD7), rfl, flat_ints _, ?_⟩
                  have q6 := q5 H5 (Same.refl H5)
                  rw [c1, Bool.true_and] at q6
                  exact q6
                · have q6 := q5 H5 (Same.refl H5)
                  rw [nf c1, Bool.false_and] at q6
                  exact q6
              · have eA : (us.map fun u => wholeTh 1 999 u && !inV (.int (iOf u)) ((ts.map fun t => iOf (numTh t)).map V.int)).all id = (us.all (wholeTh 1 999) && !us.any fun u => inV (.int (iOf u)) ((ts.map fun t => iOf (numTh t)).map V.int)) := by
                  rw [List.all_map]; exact all_split
                rw [eA]
                have sD := sB.trans sC
                have eS : struckTh (ts.map fun t => iOf (numTh t)) (.tup us) = (us.all (wholeTh 1 999) && (risesTh us && !us.any fun u => inV (.int (iOf u)) ((ts.map fun t => iOf (numTh t)).map V.int))) := by
                  show ((decide (us.length ≤ 8) && _) && _) = _
                  rw [decide_eq_true h8.2, Bool.true_and]
                rw [cr, decide_eq_true cd, Bool.true_and, Bool.true_and, eS] at e0
                by_cases cz : (us.all (wholeTh 1 999) && !us.any fun u => inV (.int (iOf u)) ((ts.map fun t => iOf (numTh t)).map V.int)) = true
                · refine iteN (by rw [cz]; rfl) ?_
                  have cz' := Bool.and_eq_true_iff.mp cz
                  have ei := ints_eq cz'.1
                  refine ⟨_, rfl, false, trivial, a2, us.map iOf, ws2, rfl, sD.up _ _ ha2, by rw [← ei]; exact AreTh.up sD.upT _ _ at2', ?_, fun HB sE => ?_⟩
                  · rw [List.length_map]; exact l2
                  rw [← ei]
                  have q' := q HB (sD.trans sE)
                  rw [e0, cz'.1, cz'.2, Bool.true_and, Bool.and_true] at q'
                  exact q'
                · refine iteY (by rw [nf cz]; rfl) ?_
                  have q' := q HA sD
                  have ez : (us.all (wholeTh 1 999) && (risesTh us && !us.any fun u => inV (.int (iOf u)) ((ts.map fun t => iOf (numTh t)).map V.int))) = false := by
                    have z := nf cz
                    revert z
                    cases us.all (wholeTh 1 999) <;> cases (us.any fun u => inV (.int (iOf u)) ((ts.map fun t => iOf (numTh t)).map V.int)) <;> cases risesTh us <;> intro z <;> first | rfl | cases z
                  rw [e0, ez] at q'
                  exact q'
            · refine iteY (by rw [ed, decide_eq_false cd]; rfl) ?_
              have q' := q _ sB
              rw [e0, decide_eq_false cd, Bool.false_and, Bool.and_false] at q'
              exact q'
          · refine iteY (by rw [nf cr]; rfl) (iteT ?_)
            have q' := q H8 s18
            rw [e0, nf cr, Bool.false_and] at q'
            exact q'
      · refine iteY (by
          rw [← at'.length, ← at2'.length]
          exact decide_eq_true (by split <;> omega)) ?_
        have e : membersTh b (.tup us) (.tup ts) = false := by
          by_cases h81 : ts.length ≤ 8
          · refine members_st ?_
            show ((decide (us.length ≤ 8) && _) && _) = false
            rw [decide_eq_false (fun z => h8 ⟨h81, z⟩)]; rfl
          · show ((decide (ts.length ≤ 8) && _) && _) = false
            rw [decide_eq_false h81]; rfl
        rw [e] at q0
        exact q0
    · refine iteY (by rw [nf h2]; rfl) (iteT ?_)
      rw [members_st (struck_no (nf h2))] at q0
      exact q0
  · refine iteY (by rw [nf h1]; rfl) (iteT ?_)
    rw [members_no (nf h1)] at q0
    exact q0
end
end K19
namespace K19
open PySem PySem.Spec PyProof.Rows L2 K01
abbrev s_law_is_shape : Stmt := top 39
abbrev N_law_is_shape : List Str := ["_law_thing", "_law_many_here", "_law_fine"]
theorem sc_law_is_shape : FnScope N_law_is_shape ["_law_thing"] (defScope s_law_is_shape) := ⟨rfl, rfl, rfl, by decide +kernel, rfl, by decide +kernel, by decide +kernel⟩
def kinds : List (Key × V) := [(.inr "whole", .int 3), (.inr "truth", .int 1), (.inr "text", .int 2), (.inr "row", .int 3), (.inr "map", .int 3), (.inr "record", .int 3), (.inr "choice", .int 4)]
theorem kinds_merge : mergeK [] kinds = kinds := by rfl
theorem kinds_no {x : Str} (h : ∀ kv ∈ kinds, kv.1 ≠ .inr x) : valV kinds (.inr x) = none := by
  unfold valV
  rw [List.find?_eq_none.mpr (fun kv m => by simpa using h kv m)]; rfl
theorem shape_nostr {k : Th} {r : List Th} (h : isiT "str" k = false) : shapeTh (.tup (k :: r)) = false := by
  have e : ∀ z, eqT k z = false := fun z => by
    cases k with
    | str x => cases h
    | bl _ => rfl
    | _ => rfl
  show (if _ then _ else _) = _
  rw [if_neg (by rw [e]; simp), if_neg (by rw [e]; simp), if_neg (by rw [e]; simp), if_neg (by rw [e]; simp), if_neg (by rw [e]; simp), if_neg (by rw [e]; simp), if_neg (by rw [e]; simp)]
theorem shape_other {x : Str} {r : List Th} (h : ∀ kv ∈ kinds, kv.1 ≠ .inr x) : shapeTh (.tup (.str x :: r)) = false := by
  have e : ∀ z : Str, z ∈ (["whole", "truth", "text", "row", "map", "record", "choice"] : List Str) → ¬ eqT (.str x) z = true := fun z m c => by
    have c' : (x == z) = true := c
    have c2 : x = z := by simpa using c'
    subst c2
    simp only [List.mem_cons, List.not_mem_nil, or_false] at m
    rcases m with rfl | rfl | rfl | rfl | rfl | rfl | rfl
    · exact h (.inr "whole", .int 3) (by unfold kinds; simp) rfl
    · exact h (.inr "truth", .int 1) (by unfold kinds; simp) rfl
    · exact h (.inr "text", .int 2) (by unfold kinds; simp) rfl
    · exact h (.inr "row", .int 3) (by unfold kinds; simp) rfl
    · exact h (.inr "map", .int 3) (by unfold kinds; simp) rfl
    · exact h (.inr "record", .int 3) (by unfold kinds; simp) rfl
    · exact h (.inr "choice", .int 4) (by unfold kinds; simp) rfl
  show (if _ then _ else _) = _
  rw [if_neg (e _ (by simp)), if_neg (e _ (by simp)), if_neg (e _ (by simp)), if_neg (e _ (by simp)), if_neg (e _ (by simp)), if_neg (e _ (by simp)), if_neg (e _ (by simp))]
theorem kinds_cases (x : Str) : x = "whole" ∨ x = "truth" ∨ x = "text" ∨ x = "row" ∨ x = "map" ∨ x = "record" ∨ x = "choice" ∨ ∀ kv ∈ kinds, kv.1 ≠ .inr x := by
  by_cases h1 : x = "whole"
  · exact .inl h1
  by_cases h2 : x = "truth"
  · exact .inr (.inl h2)
  by_cases h3 : x = "text"
  · exact .inr (.inr (.inl h3))
  by_cases h4 : x = "row"
  · exact .inr (.inr (.inr (.inl h4)))
  by_cases h5 : x = "map"
  · exact .inr (.inr (.inr (.inr (.inl h5))))
  by_cases h6 : x = "record"
  · exact .inr (.inr (.inr (.inr (.inr (.inl h6)))))
  by_cases h7 : x = "choice"
  · exact .inr (.inr (.inr (.inr (.inr (.inr (.inl h7))))))
  refine .inr (.inr (.inr (.inr (.inr (.inr (.inr fun kv m e => ?_))))))
  unfold kinds at m
  simp only [List.mem_cons, List.not_mem_nil, or_false] at m
  rcases m with rfl | rfl | rfl | rfl | rfl | rfl | rfl <;> cases e <;> contradiction
theorem shape_def (k : Th) (r : List Th) : shapeTh (.tup (k :: r)) = if eqT k "whole" = true then wholeS r else if eqT k "truth" = true then r.isEmpty else if eqT k "text" = true then textS r
    else if eqT k "row" = true then rowS r else if eqT k "map" = true then rowS r else if eqT k "record" = true then recS r else if eqT k "choice" = true then choS r else false := rfl
theorem shape_w {r : List Th} : shapeTh (.tup (.str "whole" :: r)) = wholeS r := by rw [shape_def, if_pos (show eqT (.str "whole") "whole" = true by decide +kernel)]
theorem shape_u {r : List Th} : shapeTh (.tup (.str "truth" :: r)) = r.isEmpty := by rw [shape_def, if_neg (show ¬ eqT (.str "truth") "whole" = true by decide +kernel), if_pos (show eqT (.str "truth") "truth" = true by decide +kernel)]
theorem shape_t {r : List Th} : shapeTh (.tup (.str "text" :: r)) = textS r := by rw [shape_def, if_neg (show ¬ eqT (.str "text") "whole" = true by decide +kernel), if_neg (show ¬ eqT (.str "text") "truth" = true by decide +kernel), if_pos (show eqT (.str "text") "text" = true by decide +kernel)]
theorem shape_r {r : List Th} : shapeTh (.tup (.str "row" :: r)) = rowS r := by rw [shape_def, if_neg (show ¬ eqT (.str "row") "whole" = true by decide +kernel), if_neg (show ¬ eqT (.str "row") "truth" = true by decide +kernel), if_neg (show ¬ eqT (.str "row") "text" = true by decide +kernel), if_pos (show eqT (.str "row") "row" = true by decide +kernel)]
theorem shape_m {r : List Th} : shapeTh (.tup (.str "map" :: r)) = rowS r := by rw [shape_def, if_neg (show ¬ eqT (.str "map") "whole" = true by decide +kernel), if_neg (show ¬ eqT (.str "map") "truth" = true by decide +kernel), if_neg (show ¬ eqT (.str "map") "text" = true by decide +kernel), if_neg (show ¬ eqT (.str "map") "row" = true by decide +kernel), if_pos (show eqT (.str "map") "map" = true by decide +kernel)]
theorem shape_d {r : List Th} : shapeTh (.tup (.str "record" :: r)) = recS r := by rw [shape_def, if_neg (show ¬ eqT (.str "record") "whole" = true by decide +kernel), if_neg (show ¬ eqT (.str "record") "truth" = true by decide +kernel), if_neg (show ¬ eqT (.str "record") "text" = true by decide +kernel), if_neg (show ¬ eqT (.str "record") "row" = true by decide +kernel), if_neg (show ¬ eqT (.str "record") "map" = true by decide +kernel), if_pos (show eqT (.str "record") "record" = true by decide +kernel)]
theorem shape_c {r : List Th} : shapeTh (.tup (.str "choice" :: r)) = choS r := by rw [shape_def, if_neg (show ¬ eqT (.str "choice") "whole" = true by decide +kernel), if_neg (show ¬ eqT (.str "choice") "truth" = true by decide +kernel), if_neg (show ¬ eqT (.str "choice") "text" = true by decide +kernel), if_neg (show ¬ eqT (.str "choice") "row" = true by decide +kernel), if_neg (show ¬ eqT (.str "choice") "map" = true by decide +kernel), if_neg (show ¬ eqT (.str "choice") "record" = true by decide +kernel), if_pos (show eqT (.str "choice") "choice" = true by decide +kernel)]
section
variable {P : Program} {w : World} {K : PySem.W.Frag} {mg : Str → Option Value} {base : Heap} {f : Addr} {fd : FuncData}
theorem ok_law_is_shape (F : Fun K "_law_is_shape" "_law_is_shape" s_law_is_shape f fd) (m : Bn mg) (g_law_whole : Fn P w K mg base 1 "_law_whole" ["_law_thing", "_law_low", "_law_high"] (spWhole K)) (g_law_is_name : Fn P w K mg base 1 "_law_is_name" ["_law_thing"] (spName K))
    (g_law_are_parts : Fn P w K mg base 3 "_law_are_parts" ["_law_thing", "_law_struck_here", "_law_many_here"] (spParts K)) : FnOk P w K mg base CX0 4 f fd ["_law_thing"] (spB1 K shapeTh) := by
  refine F.ok sc_law_is_shape (fun vs H Q E h => ?_) (fun cdv A outer s H vs Q E hr h => ?_)
  · obtain ⟨v, t, rfl, _⟩ := h
    rfl
  obtain ⟨v, t, rfl, ht, gd, q⟩ := h
  refine ⟨_, (@pss_cons _ _ _ _ _ (@ps_if _ _ _ _ _ _ _ _ (@PW.pt _ _ _ (@pw_or _ _ _ _ _ _ _ (@pt_not _ _ _ _ (@pt_val _ _ _ (@pe_callB _ _ _ _ _ _ _ _ _ call_isiTh rfl m.isinstance b_isinstance (@pa_cons _ _ _ _ _ (pv 0) (@pa_cons _ _ _ _ _ (@pe_bltnT _ _ _ _ rfl m.tuple b_tuple (by decide) (by decide)) pa_nil rfl) rfl) (by decide) (by decide) rfl rfl) (by intro _; rfl))) (@pw_or _ _ _ _ _ _ _ (@pt_cmpR _ _ _ _ _ _ _ _ op_eq (@pe_callB _ _ _ _ _ _ _ _ _ call_len_seq rfl m.len b_len (@pa_cons _ _ _ _ _ (pv 0) pa_nil rfl) (by decide) (by decide) rfl rfl) pe_int (nomark _)) (@pw_or1 _ _ _ _ (@pt_not _ _ _ _ (@pt_val _ _ _ (@pe_callB _ _ _ _ _ _ _ _ _ call_isiTh rfl m.isinstance b_isinstance (@pa_cons _ _ _ _ _ (@pe_ix _ _ _ _ _ _ _ ix_tup (pv 0) pe_int (fun _ _ =>  rfl)) (@pa_cons _ _ _ _ _ (@pe_bltnT _ _ _ _ rfl m.str b_str (by decide) (by decide)) pa_nil rfl) rfl) (by decide) (by decide) rfl rfl) (by intro _; rfl))))))) (@pss_one _ _ _ (@ps_ret _ _ _ _ pe_bl)) pss_nil) (@pss_cons _ _ _ _ _ (@ps_setI _ 1 _ _ _ _ _ sc_law_is_shape.nd rfl (by first | exact Or.inl rfl | exact Or.inr rfl) (@pe_disp _ _ _ _ _ (@pps_cons _ _ _ _ _ _ _ _ _ pe_str pe_int (@pps_cons _ _ _ _ _ _ _ _ _ pe_str pe_int (@pps_cons _ _ _ _ _ _ _ _ _ pe_str pe_int (@pps_cons _ _ _ _ _ _ _ _ _ pe_str pe_int (@pps_cons _ _ _ _ _ _ _ _ _ pe_str pe_int (@pps_cons _ _ _ _ _ _ _ _ _ pe_str pe_int (@pps_cons _ _ _ _ _ _ _ _ _ pe_str pe_int (@pps_nil _ _)))))))) rfl rfl (by simp) (by decide)) rfl (by first | exact .inl rfl | exact .inr rfl)) (@pss_cons _ _ _ _ _ (@ps_if _ _ _ _ _ _ _ _ (@pt_cmpR _ _ _ _ _ _ _ _ op_ne (@pe_dget2 _ _ _ _ _ _ _ _ _ (hu_of hr) (pv 1) (@pe_ix _ _ _ _ _ _ _ ix_tup (pv 0) pe_int (fun _ _ =>  rfl)) pe_int ⟨rfl, rfl, rfl, rfl⟩) (@pe_callB _ _ _ _ _ _ _ _ _ call_len_seq rfl m.len b_len (@pa_cons _ _ _ _ _ (pv 0) pa_nil rfl) (by decide) (by decide) rfl rfl) (nomark _)) (@pss_one _ _ _ (@ps_ret _ _ _ _ pe_bl)) pss_nil) (@pss_cons _ _ _ _ _ (@ps_if _ _ _ _ _ _ _ _ (@pt_cmpR _ _ _ _ _ _ _ _ op_eqTh (@pe_ix _ _ _ _ _ _ _ ix_tup (pv 0) pe_int (fun _ _ =>  rfl)) pe_str (nomark _)) (@pss_cons _ _ _ _ _ (@ps_setI _ 2 _ _ _ _ _ sc_law_is_shape.nd rfl (by first | exact Or.inl rfl | exact Or.inr rfl) (@pe_callB _ _ _ _ _ _ _ _ _ (call_allB rfl) rfl m.all b_all (@pa_cons _ _ _ _ _ (@pe_compI _ N_law_is_shape (defScope s_law_is_shape) ["_law_one"] [none] _ _ _ _ _ _ _ _ _ _ rfl (@pi_tup _ _ _ _ (@pe_slice _ _ _ _ _ _ _ _ _ _ sl_tupG (pv 0) (@po_some _ _ _ pe_int) (@po_none _))) ⟨rfl, rfl, by decide +kernel, by decide +kernel⟩ (fun _ _ _ =>  (@pg_nameI _ 0 _ _ (show List.Nodup (["_law_one"] : List Str) from by decide +kernel) rfl (Or.inl rfl) (by first | exact .inl rfl | exact .inr rfl))) (fun _ _ _ =>  pts_nil) (fun _ _ _ =>  (@pe_callF _ _ _ _ _ _ _ _ _ _ g_law_whole (hr.mono (by omega)) rfl (@pa_cons _ _ _ _ _ (pv 0) (@pa_cons _ _ _ _ _ (@pe_un _ _ _ _ _ _ un_neg (@pe_op _ _ _ _ _ _ _ _ op_pow pe_int pe_int)) (@pa_cons _ _ _ _ _ (@pe_op _ _ _ _ _ _ _ _ op_pow pe_int pe_int) pa_nil rfl) rfl) rfl) (by decide) rfl rfl)) (by first | rfl | decide | (intro _; rfl) | exact .inl rfl | exact .inr rfl | assumption)) pa_nil rfl) (by decide) (by decide) rfl rfl) rfl (by first | exact .inl rfl | exact .inr rfl)) (@pss_one _ _ _ (@ps_ret _ _ _ _ (@pe_and _ _ _ _ _ _ _ (pv 2) (@pe_one _ _ _ _ _ (@pe_cmpR _ _ _ _ _ _ _ _ op_le (@pe_ix _ _ _ _ _ _ _ ix_tup (pv 0) pe_int (fun _ _ =>  rfl)) (@pe_ix _ _ _ _ _ _ _ ix_tup (pv 0) pe_int (fun _ _ =>  rfl)) (nomark _))))))) pss_nil) (@pss_cons _ _ _ _ _ (@ps_if _ _ _ _ _ _ _ _ (@pt_cmpR _ _ _ _ _ _ _ _ op_eqTh (@pe_ix _ _ _ _ _ _ _ ix_tup (pv 0) pe_int (fun _ _ =>  rfl)) pe_str (nomark _)) (@pss_one _ _ _ (@ps_ret _ _ _ _ (@pe_callF _ _ _ _ _ _ _ _ _ _ g_law_whole (hr.mono (by omega)) rfl (@pa_cons _ _ _ _ _ (@pe_ix _ _ _ _ _ _ _ ix_tup (pv 0) pe_int (fun _ _ =>  rfl)) (@pa_cons _ _ _ _ _ pe_int (@pa_cons _ _ _ _ _ pe_int pa_nil rfl) rfl) rfl) (by decide) rfl rfl))) pss_nil) (@pss_cons _ _ _ _ _ (@ps_if _ _ _ _ _ _ _ _ (@pt_cmpR _ _ _ _ _ _ _ _ op_in_seq (@pe_ix _ _ _ _ _ _ _ ix_tup (pv 0) pe_int (fun _ _ =>  rfl)) (@pe_tup _ _ _ _ _ (@pa_cons _ _ _ _ _ pe_str (@pa_cons _ _ _ _ _ pe_str pa_nil rfl) rfl)) rfl) (@pss_one _ _ _ (@ps_ret _ _ _ _ (@pe_and _ _ _ _ _ _ _ (@pe_callF _ _ _ _ _ _ _ _ _ _ g_law_is_name (hr.mono (by omega)) rfl (@pa_cons _ _ _ _ _ (@pe_ix _ _ _ _ _ _ _ ix_tup (pv 0) pe_int (fun _ _ =>  rfl)) pa_nil rfl) (by decide) rfl rfl) (@pe_one _ _ _ _ _ (@pe_callF _ _ _ _ _ _ _ _ _ _ g_law_whole (hr.mono (by omega)) rfl (@pa_cons _ _ _ _ _ (@pe_ix _ _ _ _ _ _ _ ix_tup (pv 0) pe_int (fun _ _ =>  rfl)) (@pa_cons _ _ _ _ _ pe_int (@pa_cons _ _ _ _ _ pe_int pa_nil rfl) rfl) rfl) (by decide) rfl rfl))))) pss_nil) (@pss_cons _ _ _ _ _ (@ps_if _ _ _ _ _ _ _ _ (@pt_cmpR _ _ _ _ _ _ _ _ op_eqTh (@pe_ix _ _ _ _ _ _ _ ix_tup (pv 0) pe_int (fun _ _ =>  rfl)) pe_str (nomark _)) (@pss_one _ _ _ (@ps_ret _ _ _ _ (@pe_callF _ _ _ _ _ _ _ _ _ _ g_law_are_parts (hr.mono (by omega)) rfl (@pa_cons _ _ _ _ _ (@pe_ix _ _ _ _ _ _ _ ix_tup (pv 0) pe_int (fun _ _ =>  rfl)) (@pa_cons _ _ _ _ _ (@pe_ix _ _ _ _ _ _ _ ix_tup (pv 0) pe_int (fun _ _ =>  rfl)) (@pa_cons _ _ _ _ _ pe_int pa_nil rfl) rfl) rfl) (by decide) rfl rfl))) pss_nil) (@pss_one _ _ _ (@ps_ret _ _ _ _ (@pe_or _ _ _ _ _ _ _ (@pe_cmpR _ _ _ _ _ _ _ _ op_eqTh (@pe_ix _ _ _ _ _ _ _ ix_tup (pv 0) pe_int (fun _ _ =>  rfl)) pe_str (nomark _)) (@pe_one _ _ _ _ _ (@pe_and _ _ _ _ _ _ _ (@pe_callB _ _ _ _ _ _ _ _ _ call_isiTh rfl m.isinstance b_isinstance (@pa_cons _ _ _ _ _ (@pe_ix _ _ _ _ _ _ _ ix_tup (pv 0) pe_int (fun _ _ =>  rfl)) (@pa_cons _ _ _ _ _ (@pe_bltnT _ _ _ _ rfl m.bool b_bool (by decide) (by decide)) pa_nil rfl) rfl) (by decide) (by decide) rfl rfl) (@pe_one _ _ _ _ _ (@pe_callF _ _ _ _ _ _ _ _ _ _ g_law_are_parts (hr.mono (by omega)) rfl (@pa_cons _ _ _ _ _ (@pe_ix _ _ _ _ _ _ _ ix_tup (pv 0) pe_int (fun _ _ =>  rfl)) (@pa_cons _ _ _ _ _ (@pe_ix _ _ _ _ _ _ _ ix_tup (pv 0) pe_int (fun _ _ =>  rfl)) (@pa_cons _ _ _ _ _ pe_int pa_nil rfl) rfl) rfl) (by decide) rfl rfl)))))))))))))), ?_⟩
  have hu := Room.units0 hr
  have pw : CPow 10 18 := ⟨by decide, by decide, by decide⟩
  have q0 := q H (Same.refl H)
  refine ⟨_, rfl, _, _, t, rfl, ht, (by simp), _, rfl, ?_⟩
  cases t with
  | tup ts =>
    obtain ⟨a, ws, rfl, ha, at'⟩ := ht
    refine iteF ⟨_, rfl, a, ws, rfl, .inr ha, rfl, _, rfl, ?_⟩
    cases ts with
    | nil =>
      cases (show ws = [] from at')
      exact iteT (iteT q0)
    | cons k r =>
      have L := fun n => lenV at' n
      obtain ⟨y, xs, rfl, ik, ar⟩ := at'
      refine iteN (by
        show decide (_ = _) = false
        exact decide_eq_false (fun z => by injection z with z; simp only [List.length_cons] at z; omega)) ?_
      refine ⟨_, rfl, a, _, _, _, rfl, rfl, ha, at0, _, _, k, rfl, ik, (by simp), _, rfl, ?_⟩
      cases k with
      | str x =>
        cases (show y = .str x from ik)
        refine iteF fun p hp => ⟨upd_same, kinds, rfl, (by show 7 ≤ 15; decide), ?_⟩
        rw [kinds_merge]
        have s1 : Same H (upd (upd H p (.dK [])) p (.dK kinds)) := (Same.lay hp).put hp
        refine ⟨_, rfl, p, rfl, .inl ⟨_, .inl upd_same⟩, _, rfl, a, _, _, _, rfl, rfl, s1.up _ _ ha, at0, _, DGet.k (k := .inr x) upd_same, ?_⟩
        have neY : ∀ (n : Nat) (h : r.length = n), (!decide (V.int ((n + 1 : Nat) : Int) = V.int (V.str x :: xs).length)) = false := fun n h => by
          have z := (L n).trans (decide_eq_true h)
          rw [decide_eq_true (of_decide_eq_true z).symm]; rfl
        have neN : ∀ (n : Nat) (h : r.length ≠ n), (!decide (V.int ((n + 1 : Nat) : Int) = V.int (V.str x :: xs).length)) = true := fun n h => by
          have z := (L n).trans (decide_eq_false h)
          rw [decide_eq_false fun e => (of_decide_eq_false z) e.symm]; rfl
        rcases kinds_cases x with rfl | rfl | rfl | rfl | rfl | rfl | rfl | hx
        · refine ⟨_, rfl, a, _, rfl, .inr (s1.up _ _ ha), rfl, _, rfl, ?_⟩
          have qs := fun H' s' => q H' (s1.trans s')
          have qz := q _ s1
          rw [shape_w] at qz
          by_cases h2 : r.length = 2
          · refine iteN (neY 2 h2) ?_
            refine ⟨_, rfl, a, _, _, _, rfl, rfl, s1.up _ _ ha, at0, .str "whole", _, rfl, rfl, hu, _, rfl, iteY (by decide +kernel) ?_⟩
            obtain ⟨t1, t2, rfl⟩ := two_of h2
            obtain ⟨y1, y2, rfl, i1, i2⟩ := are2 ar
            refine ⟨_, rfl, _, rfl, a, _, rfl, s1.up _ _ ha, fun p2 H2 s2 hp2 => ⟨p2, rfl, ⟨_, hp2⟩, fun D fp sx hD => ?_⟩⟩
            have ec : cutV [V.str "whole", y1, y2] (some 1) none = [y1, y2] := rfl
            rw [ec] at hp2
            have s12 := s1.trans s2
            have eB : wholeTh (-((10 : Int) ^ (18 : Int).toNat)) ((10 : Int) ^ (18 : Int).toNat) = wholeTh (-ALL) ALL := rfl
            refine compB_tup (p := wholeTh (-ALL) ALL) (ts := [t1, t2]) hp2 ⟨_, _, rfl, IsTh.up s12.upT _ _ i1, _, _, rfl, IsTh.up s12.upT _ _ i2, rfl⟩ (by show 2 ≤ 1000000; decide) hD (fun t v H5 Q5 mt s5 i5 q5 => ?_) fun H6 s6 h6 => ⟨D, _, rfl, SqL.of h6, ?_⟩
            · exact ⟨_, rfl, _, _, rfl, rfl, pw, _, rfl, _, _, rfl, rfl, pw, v, t, _, _, rfl, i5, q5 H5 (Same.refl H5)⟩
            have s16 := s12.trans s6
            refine ⟨_, rfl, _, rfl, ?_⟩
            have q6 := q H6 s16
            rw [shape_w, show wholeS [t1, t2] = (wholeTh (-ALL) ALL t1 && wholeTh (-ALL) ALL t2 && leTh t1 t2) from rfl] at q6
            have e6 : ([t1, t2].map (wholeTh (-ALL) ALL)).all id = (wholeTh (-ALL) ALL t1 && wholeTh (-ALL) ALL t2) := by
              show (wholeTh (-ALL) ALL t1 && (wholeTh (-ALL) ALL t2 && true)) = _
              rw [Bool.and_true]
            rw [e6]
            refine ite2 (fun c1 => ?_) (fun c1 => ?_)
            · have c1' := Bool.and_eq_true_iff.mp c1
              have w1 := wh_int c1'.1
              have w2 := wh_int c1'.2
              rw [w1] at i1
              rw [w2] at i2
              cases (show y1 = .int (iOf t1) from i1)
              cases (show y2 = .int (iOf t2) from i2)
              refine ⟨_, rfl, a, _, _, _, rfl, rfl, s16.up _ _ ha, at1, _, rfl, a, _, _, _, rfl, rfl, s16.up _ _ ha, at2, _, _, rfl, rfl, ?_⟩
              rw [c1, Bool.true_and, w1, w2] at q6
              exact q6
            · rw [nf c1, Bool.false_and] at q6
              exact q6
          · refine iteY (neN 2 h2) ?_
            rw [wholeS_len h2] at qz
            exact qz
        · refine ⟨_, rfl, a, _, rfl, .inr (s1.up _ _ ha), rfl, _, rfl, ?_⟩
          have qs := fun H' s' => q H' (s1.trans s')
          have qz := q _ s1
          rw [shape_u] at qz
          by_cases h2 : r.length = 0
          · refine iteN (neY 0 h2) ?_
            refine ⟨_, rfl, a, _, _, _, rfl, rfl, s1.up _ _ ha, at0, .str "truth", _, rfl, rfl, hu, _, rfl, iteN (by decide +kernel) ?_⟩
            refine ⟨_, rfl, a, _, _, _, rfl, rfl, s1.up _ _ ha, at0, .str "truth", _, rfl, rfl, hu, _, rfl, iteN (by decide +kernel) ?_⟩
            refine ⟨_, rfl, a, _, _, _, rfl, rfl, s1.up _ _ ha, at0, (by show 2 ≤ sizeLine; decide), fun pt ht2 => ⟨pt, _, rfl, .inr (SqT.of upd_same), rfl, rfl, _, rfl, iteN (by decide +kernel) ?_⟩⟩
            have s2 : Same H _ := s1.trans (Same.lay (o := .tup [.str "row", .str "map"]) ht2)
            refine ⟨_, rfl, a, _, _, _, rfl, rfl, s2.up _ _ ha, at0, .str "truth", _, rfl, rfl, hu, _, rfl, iteN (by decide +kernel) ?_⟩
            have q6 := q _ s2
            rw [shape_u] at q6
            obtain rfl : r = [] := by cases r with | nil => rfl | cons _ _ => cases h2
            exact ⟨_, rfl, a, _, _, _, rfl, rfl, s2.up _ _ ha, at0, .str "truth", _, rfl, rfl, hu, _, rfl, iteY (by decide +kernel) q6⟩
          · refine iteY (neN 0 h2) ?_
            rw [show r.isEmpty = false from by cases r; exact absurd rfl h2; rfl] at qz
            exact qz
        · refine ⟨_, rfl, a, _, rfl, .inr (s1.up _ _ ha), rfl, _, rfl, ?_⟩
          have qs := fun H' s' => q H' (s1.trans s')
          have qz := q _ s1
          rw [shape_t] at qz
          by_cases h2 : r.length = 1
          · refine iteN (neY 1 h2) ?_
            refine ⟨_, rfl, a, _, _, _, rfl, rfl, s1.up _ _ ha, at0, .str "text", _, rfl, rfl, hu, _, rfl, iteN (by decide +kernel) ?_⟩
            refine ⟨_, rfl, a, _, _, _, rfl, rfl, s1.up _ _ ha, at0, .str "text", _, rfl, rfl, hu, _, rfl, iteY (by decide +kernel) ?_⟩
            obtain ⟨t1, rfl⟩ := one_of h2
            obtain ⟨y1, rfl, i1⟩ := are1 ar
            exact ⟨_, rfl, a, _, _, _, rfl, rfl, s1.up _ _ ha, at1, y1, t1, _, _, rfl, IsTh.up s1.upT _ _ i1, qz⟩
          · refine iteY (neN 1 h2) ?_
            rw [textS_len h2] at qz
            exact qz
        · refine ⟨_, rfl, a, _, rfl, .inr (s1.up _ _ ha), rfl, _, rfl, ?_⟩
          have qs := fun H' s' => q H' (s1.trans s')
          have qz := q _ s1
          rw [shape_r] at qz
          by_cases h2 : r.length = 2
          · refine iteN (neY 2 h2) ?_
            refine ⟨_, rfl, a, _, _, _, rfl, rfl, s1.up _ _ ha, at0, .str "row", _, rfl, rfl, hu, _, rfl, iteN (by decide +kernel) ?_⟩
            refine ⟨_, rfl, a, _, _, _, rfl, rfl, s1.up _ _ ha, at0, .str "row", _, rfl, rfl, hu, _, rfl, iteN (by decide +kernel) ?_⟩
            refine ⟨_, rfl, a, _, _, _, rfl, rfl, s1.up _ _ ha, at0, (by show 2 ≤ sizeLine; decide), fun pt ht2 => ⟨pt, _, rfl, .inr (SqT.of upd_same), rfl, rfl, _, rfl, iteY (by decide +kernel) ?_⟩⟩
            have s2 : Same H _ := s1.trans (Same.lay (o := .tup [.str "row", .str "map"]) ht2)
            obtain ⟨t1, t2, rfl⟩ := two_of h2
            obtain ⟨y1, y2, rfl, i1, i2⟩ := are2 ar
            refine ⟨_, rfl, a, _, _, _, rfl, rfl, s2.up _ _ ha, at1, y1, t1, rfl, IsTh.up s2.upT _ _ i1, gd.2.1, fun H3 s3 => ⟨_, rfl, ?_⟩⟩
            have s13 := s2.trans s3
            have q6 := q H3 s13
            rw [shape_r, show rowS [t1, t2] = (nameTh t1 && wholeTh 0 20 t2) from rfl] at q6
            refine ite2 (fun c1 => ?_) (fun c1 => ?_)
            · rw [c1, Bool.true_and] at q6
              exact ⟨_, rfl, a, _, _, _, rfl, rfl, s13.up _ _ ha, at2, y2, t2, _, _, rfl, IsTh.up s13.upT _ _ i2, q6⟩
            · rw [nf c1, Bool.false_and] at q6
              exact q6
          · refine iteY (neN 2 h2) ?_
            rw [rowS_len h2] at qz
            exact qz
        · refine ⟨_, rfl, a, _, rfl, .inr (s1.up _ _ ha), rfl, _, rfl, ?_⟩
          have qs := fun H' s' => q H' (s1.trans s')
          have qz := q _ s1
          rw [shape_m] at qz
          by_cases h2 : r.length = 2
          · refine iteN (neY 2 h2) ?_
            refine ⟨_, rfl, a, _, _, _, rfl, rfl, s1.up _ _ ha, at0, .str "map", _, rfl, rfl, hu, _, rfl, iteN (by decide +kernel) ?_⟩
            refine ⟨_, rfl, a, _, _, _, rfl, rfl, s1.up _ _ ha, at0, .str "map", _, rfl, rfl, hu, _, rfl, iteN (by decide +kernel) ?_⟩
            refine ⟨_, rfl, a, _, _, _, rfl, rfl, s1.up _ _ ha, at0, (by show 2 ≤ sizeLine; decide), fun pt ht2 => ⟨pt, _, rfl, .inr (SqT.of upd_same), rfl, rfl, _, rfl, iteY (by decide +kernel) ?_⟩⟩
            have s2 : Same H _ := s1.trans (Same.lay (o := .tup [.str "row", .str "map"]) ht2)
            obtain ⟨t1, t2, rfl⟩ := two_of h2
            obtain ⟨y1, y2, rfl, i1, i2⟩ := are2 ar
            refine ⟨_, rfl, a, _, _, _, rfl, rfl, s2.up _ _ ha, at1, y1, t1, rfl, IsTh.up s2.upT _ _ i1, gd.2.1, fun H3 s3 => ⟨_, rfl, ?_⟩⟩
            have s13 := s2.trans s3
            have q6 := q H3 s13
            rw [shape_m, show rowS [t1, t2] = (nameTh t1 && wholeTh 0 20 t2) from rfl] at q6
            refine ite2 (fun c1 => ?_) (fun c1 => ?_)
            · rw [c1, Bool.true_and] at q6
              exact ⟨_, rfl, a, _, _, _, rfl, rfl, s13.up _ _ ha, at2, y2, t2, _, _, rfl, IsTh.up s13.upT _ _ i2, q6⟩
            · rw [nf c1, Bool.false_and] at q6
              exact q6
          · refine iteY (neN 2 h2) ?_
            rw [rowS_len h2] at qz
            exact qz
        · refine ⟨_, rfl, a, _, rfl, .inr (s1.up _ _ ha), rfl, _, rfl, ?_⟩
          have qs := fun H' s' => q H' (s1.trans s')
          have qz := q _ s1
          rw [shape_d] at qz
          by_cases h2 : r.length = 2
          · refine iteN (neY 2 h2) ?_
            refine ⟨_, rfl, a, _, _, _, rfl, rfl, s1.up _ _ ha, at0, .str "record", _, rfl, rfl, hu, _, rfl, iteN (by decide +kernel) ?_⟩
            refine ⟨_, rfl, a, _, _, _, rfl, rfl, s1.up _ _ ha, at0, .str "record", _, rfl, rfl, hu, _, rfl, iteN (by decide +kernel) ?_⟩
            refine ⟨_, rfl, a, _, _, _, rfl, rfl, s1.up _ _ ha, at0, (by show 2 ≤ sizeLine; decide), fun pt ht2 => ⟨pt, _, rfl, .inr (SqT.of upd_same), rfl, rfl, _, rfl, iteN (by decide +kernel) ?_⟩⟩
            have s2 : Same H _ := s1.trans (Same.lay (o := .tup [.str "row", .str "map"]) ht2)
            refine ⟨_, rfl, a, _, _, _, rfl, rfl, s2.up _ _ ha, at0, .str "record", _, rfl, rfl, hu, _, rfl, iteY (by decide +kernel) ?_⟩
            obtain ⟨t1, t2, rfl⟩ := two_of h2
            obtain ⟨y1, y2, rfl, i1, i2⟩ := are2 ar
            refine ⟨_, rfl, a, _, _, _, rfl, rfl, s2.up _ _ ha, at1, _, rfl, a, _, _, _, rfl, rfl, s2.up _ _ ha, at2, y1, y2, true, t2, t1, rfl, IsTh.up s2.upT _ _ i1, IsTh.up s2.upT _ _ i2, gd.2.1, gd.2.2.1, fun H3 s3 => ?_⟩
            have q6 := q H3 (s2.trans s3)
            rw [shape_d] at q6
            exact q6
          · refine iteY (neN 2 h2) ?_
            rw [recS_len h2] at qz
            exact qz
        · refine ⟨_, rfl, a, _, rfl, .inr (s1.up _ _ ha), rfl, _, rfl, ?_⟩
          have qs := fun H' s' => q H' (s1.trans s')
          have qz := q _ s1
          rw [shape_c] at qz
          by_cases h2 : r.length = 3
          · refine iteN (neY 3 h2) ?_
            refine ⟨_, rfl, a, _, _, _, rfl, rfl, s1.up _ _ ha, at0, .str "choice", _, rfl, rfl, hu, _, rfl, iteN (by decide +kernel) ?_⟩
            refine ⟨_, rfl, a, _, _, _, rfl, rfl, s1.up _ _ ha, at0, .str "choice", _, rfl, rfl, hu, _, rfl, iteN (by decide +kernel) ?_⟩
            refine ⟨_, rfl, a, _, _, _, rfl, rfl, s1.up _ _ ha, at0, (by show 2 ≤ sizeLine; decide), fun pt ht2 => ⟨pt, _, rfl, .inr (SqT.of upd_same), rfl, rfl, _, rfl, iteN (by decide +kernel) ?_⟩⟩
            have s2 : Same H _ := s1.trans (Same.lay (o := .tup [.str "row", .str "map"]) ht2)
            refine ⟨_, rfl, a, _, _, _, rfl, rfl, s2.up _ _ ha, at0, .str "choice", _, rfl, rfl, hu, _, rfl, iteN (by decide +kernel) ?_⟩
            obtain ⟨t1, t2, t3, rfl⟩ := len3 h2
            obtain ⟨y1, y2, y3, rfl, i1, i2, i3⟩ := are3 ar
            refine ⟨_, rfl, a, _, _, _, rfl, rfl, s2.up _ _ ha, at0, .str "choice", _, rfl, rfl, hu, _, rfl, iteN (by decide +kernel) ?_⟩
            refine ⟨_, rfl, a, _, _, _, rfl, rfl, s2.up _ _ ha, at3, y3, _, t3, rfl, IsTh.up s2.upT _ _ i3, (by simp), _, rfl, ?_⟩
            refine ite2 (fun c1 => ?_) (fun c1 => ?_)
            · refine ⟨_, rfl, a, _, _, _, rfl, rfl, s2.up _ _ ha, at1, _, rfl, a, _, _, _, rfl, rfl, s2.up _ _ ha, at2, y1, y2, false, t2, t1, rfl, IsTh.up s2.upT _ _ i1, IsTh.up s2.upT _ _ i2, gd.2.1, gd.2.2.1, fun H3 s3 => ?_⟩
              have q6 := q H3 (s2.trans s3)
              rw [shape_c, show choS [t1, t2, t3] = (membersTh false t2 t1 && isiT "bool" t3) from rfl, c1, Bool.and_true] at q6
              exact q6
            · have q6 := q _ s2
              rw [shape_c, show choS [t1, t2, t3] = (membersTh false t2 t1 && isiT "bool" t3) from rfl, nf c1, Bool.and_false] at q6
              exact q6
          · refine iteY (neN 3 h2) ?_
            rw [choS_len h2] at qz
            exact qz
        · rw [kinds_no hx]
          refine ⟨_, rfl, a, _, rfl, .inr (s1.up _ _ ha), rfl, _, rfl, iteY ?_ ?_⟩
          · show (!decide (V.int 0 = V.int _)) = true
            rw [decide_eq_false (fun z => by injection z with z; simp only [List.length_cons] at z; omega)]; rfl
          · have q' := q _ s1
            rw [shape_other hx] at q'
            exact q'
      | bl b' => rw [shape_nostr rfl] at q0; exact iteT q0
      | non => rw [shape_nostr rfl] at q0; exact iteT q0
      | int x => rw [shape_nostr rfl] at q0; exact iteT q0
      | tup x => rw [shape_nostr rfl] at q0; exact iteT q0
      | opq => rw [shape_nostr rfl] at q0; exact iteT q0
  | bl b' => exact iteT (iteT q0)
  | non => exact iteT (iteT q0)
  | int x => exact iteT (iteT q0)
  | str x => exact iteT (iteT q0)
  | opq => exact iteT (iteT q0)
end
end K19
namespace K19
open PySem PySem.Spec PyProof.Rows L2 K01
abbrev s_law_odd : Stmt := top 35
abbrev N_law_odd : List Str := ["_law_feed_here", "_law_thing", "_law_some"]
theorem sc_law_odd : FnScope N_law_odd ["_law_feed_here", "_law_thing"] (defScope s_law_odd) := ⟨rfl, rfl, rfl, by decide +kernel, rfl, by decide +kernel, by decide +kernel⟩
instance gdCdec (c : Nat) : Decidable (gdC c) := by unfold gdC; infer_instance
theorem lit_gd {x : Str} (h : (x.cps.toList.all fun c => decide (gdC c)) = true) (hl : x.length ≤ 1000) : gdT (.str x) := ⟨fun c mc => of_decide_eq_true (List.all_eq_true.mp h c mc), hl⟩
def cutTh (ts : List Th) (lo hi : Option Int) : List Th := (ts.drop (HT.sIx ts.length 0 lo)).take (HT.sIx ts.length ts.length hi - HT.sIx ts.length 0 lo)
theorem AreTh.cut {K : PySem.W.Frag} {H : Hp} {ts : List Th} {vs : List V} (h : AreTh K H ts vs) (lo hi : Option Int) : AreTh K H (cutTh ts lo hi) (cutV vs lo hi) := by
  unfold cutTh cutV
  rw [← h.length]
  exact (h.drop _).take _
theorem pickT {K : PySem.W.Frag} {H : Hp} {ts : List Th} {vs : List V} (h : AreTh K H ts vs) {r : Int} (h0 : 0 ≤ r) (h1 : r < ts.length) : ∃ u v, u ∈ ts ∧ atI vs r = some v ∧ IsTh K H u v := by
  have hj : r.toNat < ts.length := by omega
  obtain ⟨v, e, i⟩ := h.get (List.getElem?_eq_getElem hj)
  refine ⟨_, v, List.getElem_mem hj, ?_, i⟩
  have z : atI vs ((r.toNat : Nat) : Int) = some v := atI_nat e
  rw [show ((r.toNat : Nat) : Int) = r by omega] at z
  exact z
theorem cut_mem {ts : List Th} {lo hi : Option Int} {t : Th} (m : t ∈ cutTh ts lo hi) : t ∈ ts := List.mem_of_mem_drop (List.mem_of_mem_take m)
theorem cut_len (ts : List Th) (lo hi : Option Int) : (cutTh ts lo hi).length ≤ ts.length := by
  unfold cutTh
  rw [List.length_take, List.length_drop]; omega
theorem cut_to (ws : List V) {k : Int} (h0 : 0 ≤ k) (h1 : k < ws.length) : cutV ws none (some k) = ws.take k.toNat := by
  unfold cutV
  have e : HT.sIx ws.length ws.length (some k) = k.toNat := by
    show (if k < 0 then (k + (ws.length : Int)).toNat else min k.toNat ws.length) = _
    rw [if_neg (by omega)]; omega
  rw [e, HT.sIx_none, List.drop_zero, Nat.sub_zero]
theorem cut_from (ws : List V) {k : Int} (h0 : 0 ≤ k) (h1 : k < ws.length) : cutV ws (some (k + 1)) none = ws.drop (k.toNat + 1) := by
  unfold cutV
  have e : HT.sIx ws.length 0 (some (k + 1)) = k.toNat + 1 := by
    show (if k + 1 < 0 then (k + 1 + (ws.length : Int)).toNat else min (k + 1).toNat ws.length) = _
    rw [if_neg (by omega)]; omega
  rw [e, HT.sIx_none, List.take_of_length_le]
  rw [List.length_drop]; omega
structure Odd (t u : Th) : Prop where
  gd : gdT u
  dp : dpT u ≤ dpT t + 2
  wd : wdT u ≤ wdT t + 1
theorem odd_leaf {t u : Th} (g : gdT u) (d : dpT u ≤ 2) (w : wdT u ≤ 1) : Odd t u := ⟨g, by omega, by omega⟩
def menuA : List Th := [.non, .bl true, .bl false, .int 0, .int 1, .int 2, .int 999, .int 1000, .int (-1), .int ((10 : Int) ^ (18 : Int).toNat), .int ((10 : Int) ^ (18 : Int).toNat + 1), .str "", .str "a", .str "A", .str "abcdefghi", .str "whole"]
def menuB (t : Th) : List Th := [.str "text", .str "record", .str "row", .tup [], .opq, .opq, .tup [.str "truth"], .tup [.int 1], .tup [.str "a"], .tup [.tup []], .int 201, .int 21, .int 20, .int 200, t]
theorem menu_odd {t : Th} (g : gdT t) : ∀ u ∈ menuA ++ menuB t, Odd t u := by
  intro u mu
  have L : ∀ {x : Str}, gdT (.str x) → Odd t (.str x) := fun g => odd_leaf g (by show 0 ≤ 2; decide) (by show 0 ≤ 1; decide)
  have T : ∀ {x : Str}, gdT (.str x) → Odd t (.tup [.str x]) := fun g => odd_leaf ⟨g, trivial⟩ (by show 1 ≤ 2; decide) (by show 1 ≤ 1; decide)
  rcases List.mem_append.mp mu with mu | mu
  · simp only [menuA, List.mem_cons, List.not_mem_nil, or_false] at mu
    rcases mu with rfl | rfl | rfl | rfl | rfl | rfl | rfl | rfl | rfl | rfl | rfl | rfl | rfl | rfl | rfl | rfl <;> first
      | exact odd_leaf trivial (by show 0 ≤ 2; decide) (by show 0 ≤ 1; decide)
      | exact L (lit_gd (by decide +kernel) (by decide +kernel))
  · simp only [menuB, List.mem_cons, List.not_mem_nil, or_false] at mu
    rcases mu with rfl | rfl | rfl | rfl | rfl | rfl | rfl | rfl | rfl | rfl | rfl | rfl | rfl | rfl | rfl <;> first
      | exact odd_leaf trivial (by show 0 ≤ 2; decide) (by show 0 ≤ 1; decide)
      | exact L (lit_gd (by decide +kernel) (by decide +kernel))
      | exact T (lit_gd (by decide +kernel) (by decide +kernel))
      | exact odd_leaf trivial (by decide) (by decide)
      | exact odd_leaf ⟨trivial, trivial⟩ (by decide) (by decide)
      | exact ⟨g, by omega, by omega⟩
abbrev wA : List V := [.non, .bl true, .bl false, .int 0, .int 1, .int 2, .int 999, .int 1000, .int (-1), .int ((10 : Int) ^ (18 : Int).toNat), .int ((10 : Int) ^ (18 : Int).toNat + 1), .str "", .str "a", .str "A", .str "abcdefghi", .str "whole"]
abbrev wB (e1 e2 e3 e4 e5 e6 e8 : Addr) (v : V) : List V := [.str "text", .str "record", .str "row", .ref e1, .ref e2, .ref e3, .ref e4, .ref e5, .ref e6, .ref e8, .int 201, .int 21, .int 20, .int 200, v]
def spOdd (K : PySem.W.Frag) : Sp := fun vs H Q _ => ∃ (l : Addr) (v : V) (t : Th) (r : Nat), vs = [.ref l, v] ∧ Fd (r + 1) H l ∧ IsTh K H t v ∧ gdT t ∧ ∀ x u H', IsTh K H' u x → Odd t u → Stp l r H H' → Q x H'
section
variable {P : Program} {w : World} {K : PySem.W.Frag} {mg : Str → Option Value} {base : Heap} {f : Addr} {fd : FuncData}
theorem ok_odd (F : Fun K "_law_odd" "_law_odd" s_law_odd f fd) (m : Bn mg) (g_law_draw : Fn P w K mg base 1 "_law_draw" ["_law_feed_here", "_law_many_here"] spDraw) : FnOk P w K mg base CX0 2 f fd ["_law_feed_here", "_law_thing"] (spOdd K) := by
  refine F.ok sc_law_odd (fun vs H Q E h => ?_) (fun cdv A outer s H vs Q E hr h => ?_)
  · obtain ⟨l, v, t, r, rfl, _⟩ := h
    rfl
  obtain ⟨l, v, t, r, rfl, fe, ht, gd, q⟩ := h
  refine ⟨_, (@pss_cons _ _ _ _ _ (@ps_setI _ 2 _ _ _ _ _ sc_law_odd.nd rfl (by first | exact Or.inl rfl | exact Or.inr rfl) (@pe_lst _ _ _ _ (@pa_cons _ _ _ _ _ pe_non (@pa_cons _ _ _ _ _ pe_bl (@pa_cons _ _ _ _ _ pe_bl (@pa_cons _ _ _ _ _ pe_int (@pa_cons _ _ _ _ _ pe_int (@pa_cons _ _ _ _ _ pe_int (@pa_cons _ _ _ _ _ pe_int (@pa_cons _ _ _ _ _ pe_int (@pa_cons _ _ _ _ _ (@pe_un _ _ _ _ _ _ un_neg pe_int) (@pa_cons _ _ _ _ _ (@pe_op _ _ _ _ _ _ _ _ op_pow pe_int pe_int) (@pa_cons _ _ _ _ _ (@pe_op _ _ _ _ _ _ _ _ op_add (@pe_op _ _ _ _ _ _ _ _ op_pow pe_int pe_int) pe_int) (@pa_cons _ _ _ _ _ pe_str (@pa_cons _ _ _ _ _ pe_str (@pa_cons _ _ _ _ _ pe_str (@pa_cons _ _ _ _ _ pe_str (@pa_cons _ _ _ _ _ pe_str pa_nil rfl) rfl) rfl) rfl) rfl) rfl) rfl) rfl) rfl) rfl) rfl) rfl) rfl) rfl) rfl) rfl)) rfl (by first | exact .inl rfl | exact .inr rfl)) (@pss_cons _ _ _ _ _ (@ps_setI _ 2 _ _ _ _ _ sc_law_odd.nd rfl (by first | exact Or.inl rfl | exact Or.inr rfl) (@pe_op _ _ _ _ _ _ _ _ op_cat (pv 2) (@pe_lst _ _ _ _ (@pa_cons _ _ _ _ _ pe_str (@pa_cons _ _ _ _ _ pe_str (@pa_cons _ _ _ _ _ pe_str (@pa_cons _ _ _ _ _ (@pe_tup _ _ _ _ _ pa_nil) (@pa_cons _ _ _ _ _ (@pe_lst _ _ _ _ pa_nil) (@pa_cons _ _ _ _ _ (@pe_dct0 _ _) (@pa_cons _ _ _ _ _ (@pe_tup _ _ _ _ _ (@pa_cons _ _ _ _ _ pe_str pa_nil rfl)) (@pa_cons _ _ _ _ _ (@pe_tup _ _ _ _ _ (@pa_cons _ _ _ _ _ pe_int pa_nil rfl)) (@pa_cons _ _ _ _ _ (@pe_tup _ _ _ _ _ (@pa_cons _ _ _ _ _ pe_str pa_nil rfl)) (@pa_cons _ _ _ _ _ (@pe_tup _ _ _ _ _ (@pa_cons _ _ _ _ _ (@pe_tup _ _ _ _ _ pa_nil) pa_nil rfl)) (@pa_cons _ _ _ _ _ pe_int (@pa_cons _ _ _ _ _ pe_int (@pa_cons _ _ _ _ _ pe_int (@pa_cons _ _ _ _ _ pe_int (@pa_cons _ _ _ _ _ (pv 1) pa_nil rfl) rfl) rfl) rfl) rfl) rfl) rfl) rfl) rfl) rfl) rfl) rfl) rfl) rfl) rfl))) rfl (by first | exact .inl rfl | exact .inr rfl)) (@pss_one _ _ _ (@ps_ret _ _ _ _ (@pe_ix _ _ _ _ _ _ _ ix_list (pv 2) (@pe_callF _ _ _ _ _ _ _ _ _ _ g_law_draw (hr.mono (by omega)) rfl (@pa_cons _ _ _ _ _ (pv 0) (@pa_cons _ _ _ _ _ (@pe_callB _ _ _ _ _ _ _ _ _ call_len_seq rfl m.len b_len (@pa_cons _ _ _ _ _ (pv 2) pa_nil rfl) (by decide) (by decide) rfl rfl) pa_nil rfl) rfl) (by decide) rfl rfl) (fun _ _ =>  rfl)))))), ?_⟩
  have pw : CPow 10 18 := ⟨by decide, by decide, by decide⟩
  refine ⟨_, rfl, _, _, rfl, rfl, pw, _, _, rfl, rfl, pw, _, _, rfl, rfl, (by show 16 ≤ sizeLine; decide), fun p1 h1 => ?_⟩
  refine ⟨_, rfl, (by show 0 ≤ sizeLine; decide), fun e1 g1 => ⟨(by show 0 ≤ sizeLine; decide), fun e2 g2 => fun e3 g3 => ⟨(by show 1 ≤ sizeLine; decide), fun e4 g4 => ⟨(by show 1 ≤ sizeLine; decide), fun e5 g5 => ⟨(by show 1 ≤ sizeLine; decide), fun e6 g6 => ⟨(by show 0 ≤ sizeLine; decide), fun e7 g7 => ⟨(by show 1 ≤ sizeLine; decide), fun e8 g8 => ⟨_, rfl, (by show 15 ≤ sizeLine; decide), fun p2 h2 => ?_⟩⟩⟩⟩⟩⟩⟩⟩
  have s1 := Same.lay (o := .lst wA) h1
  have u1 := Same.lay (o := .tup []) g1
  have u2 := Same.lay (o := .lst []) g2
  have u3 := Same.lay (o := .dK []) g3
  have u4 := Same.lay (o := .tup [.str "truth"]) g4
  have u5 := Same.lay (o := .tup [.int 1]) g5
  have u6 := Same.lay (o := .tup [.str "a"]) g6
  have u7 := Same.lay (o := .tup []) g7
  have u8 := Same.lay (o := .tup [.ref e7]) g8
  have u9 := Same.lay (o := .lst (wB e1 e2 e3 e4 e5 e6 e8 v)) h2
  have v8 := u8.trans u9
  have v7 := u7.trans v8
  have v6 := u6.trans v7
  have v5 := u5.trans v6
  have v4 := u4.trans v5
  have v3 := u3.trans v4
  have v2 := u2.trans v3
  have v1 := u1.trans v2
  refine ⟨p1, p2, _, _, rfl, rfl, v1 _ _ upd_same, upd_same, (by show 31 ≤ sizeLine; decide), fun p3 h3 => ?_⟩
  have z := Same.lay (o := .lst (wA ++ wB e1 e2 e3 e4 e5 e6 e8 v)) h3
  have sA := s1.trans (v1.trans z)
  have all : AreTh K _ (menuA ++ menuB t) (wA ++ wB e1 e2 e3 e4 e5 e6 e8 v) :=
    ⟨_, _, rfl, rfl, _, _, rfl, rfl, _, _, rfl, rfl, _, _, rfl, rfl, _, _, rfl, rfl, _, _, rfl, rfl, _, _, rfl, rfl, _, _, rfl, rfl, _, _, rfl, rfl, _, _, rfl, rfl, _, _, rfl, rfl, _, _, rfl, rfl, _, _, rfl, rfl, _, _, rfl, rfl, _, _, rfl, rfl, _, _, rfl, rfl,
     _, _, rfl, rfl, _, _, rfl, rfl, _, _, rfl, rfl, _, _, rfl, ⟨e1, _, rfl, (v2.trans z).up _ _ (SqT.of upd_same), rfl⟩, _, _, rfl, ⟨e2, rfl, .inl ⟨[], (v3.trans z) _ _ upd_same⟩⟩, _, _, rfl, ⟨e3, rfl, .inr ⟨[], (v4.trans z) _ _ upd_same⟩⟩,
     _, _, rfl, ⟨e4, _, rfl, (v5.trans z).up _ _ (SqT.of upd_same), AreTh.one rfl⟩, _, _, rfl, ⟨e5, _, rfl, (v6.trans z).up _ _ (SqT.of upd_same), AreTh.one rfl⟩, _, _, rfl, ⟨e6, _, rfl, (v7.trans z).up _ _ (SqT.of upd_same), AreTh.one rfl⟩,
     _, _, rfl, ⟨e8, _, rfl, (u9.trans z).up _ _ (SqT.of upd_same), AreTh.one ⟨e7, _, rfl, (v8.trans z).up _ _ (SqT.of upd_same), rfl⟩⟩, _, _, rfl, rfl, _, _, rfl, rfl, _, _, rfl, rfl, _, _, rfl, rfl, _, _, rfl, IsTh.up sA.upT _ _ ht, rfl⟩
  have fA := fe.same sA
  refine ⟨_, rfl, _, rfl, _, rfl, p3, _, rfl, .inl (SqL.of upd_same), l, 31, r, rfl, fA, by decide, by decide, fun x HZ a b tZ => ?_⟩
  obtain ⟨u, vu, mu, ev, iu⟩ := pickT all a b
  have nL : p3 ≠ l := (fe.same (s1.trans v1)).ne h3
  refine ⟨p3, _, _, _, rfl, rfl, SqL.of (tZ.keep _ _ nL upd_same), ev, ?_⟩
  exact q vu u HZ (IsTh.up (tZ.upT fA) _ _ iu) (menu_odd gd u mu) (((Stp.refl fe).same sA).trans tZ)
end
end K19
namespace K19
open PySem PySem.Spec PyProof.Rows L2 K01
abbrev s_law_bent : Stmt := top 36
abbrev N_law_bent : List Str := ["_law_feed_here", "_law_thing", "_law_some", "_law_k"]
theorem sc_law_bent : FnScope N_law_bent ["_law_feed_here", "_law_thing"] (defScope s_law_bent) := ⟨rfl, rfl, rfl, by decide +kernel, rfl, by decide +kernel, by decide +kernel⟩
def six (ts : List Th) : List Th := [.opq, .tup (ts ++ cutTh ts (some (-1)) none), .tup (cutTh ts (some 1) none), .tup ts.reverse, .tup (cutTh ts none (some (-1))), .tup (ts ++ [.tup []])]
theorem odd_sub {ts us : List Th} (g : gdT (.tup ts)) (h1 : ∀ t ∈ us, t ∈ ts) (h3 : us.length ≤ ts.length + 1) : Odd (.tup ts) (.tup us) := by
  have d : dpTs us ≤ dpTs ts := dpTs_le fun t m => dpT_mem (h1 t m)
  have w : wdTs us ≤ wdTs ts := wdTs_le fun t m => wdT_mem (h1 t m)
  refine ⟨gdTs_all.mpr fun t m => gdTs_all.mp g t (h1 t m), ?_, ?_⟩
  · simp only [dpT]; omega
  · simp only [wdT]; omega
theorem cut_last (ts : List Th) : (cutTh ts (some (-1)) none).length ≤ 1 := by
  unfold cutTh
  have e : HT.sIx ts.length 0 (some (-1)) = ts.length - 1 := by
    show (if (-1 : Int) < 0 then ((-1 : Int) + (ts.length : Int)).toNat else min (-1 : Int).toNat ts.length) = _
    rw [if_pos (by decide)]; omega
  rw [e, List.length_take, List.length_drop]; omega
theorem six_odd {ts : List Th} (g : gdT (.tup ts)) : ∀ u ∈ six ts, Odd (.tup ts) u := by
  intro u mu
  have l1 := cut_last ts
  have l2 := cut_len ts (some 1) none
  have l3 := cut_len ts none (some (-1))
  simp only [six, List.mem_cons, List.not_mem_nil, or_false] at mu
  rcases mu with rfl | rfl | rfl | rfl | rfl | rfl
  · exact odd_leaf trivial (by decide) (by decide)
  · exact odd_sub g (fun t m => (List.mem_append.mp m).elim id cut_mem) (by rw [List.length_append]; omega)
  · exact odd_sub g (fun t m => cut_mem m) (by omega)
  · exact odd_sub g (fun t m => List.mem_reverse.mp m) (by rw [List.length_reverse]; omega)
  · exact odd_sub g (fun t m => cut_mem m) (by omega)
  · refine ⟨gdTs_all.mpr fun t m => ?_, ?_, ?_⟩
    · rcases List.mem_append.mp m with m | m
      · exact gdTs_all.mp g t m
      · rw [List.mem_singleton.mp m]; trivial
    · have : dpTs (ts ++ [.tup []]) ≤ dpTs ts + 1 := dpTs_le fun t m => by
        rcases List.mem_append.mp m with m | m
        · exact Nat.le_succ_of_le (dpT_mem m)
        · rw [List.mem_singleton.mp m]; show 1 ≤ _; omega
      simp only [dpT]; omega
    · have : wdTs (ts ++ [.tup []]) ≤ wdTs ts := wdTs_le fun t m => by
        rcases List.mem_append.mp m with m | m
        · exact wdT_mem m
        · rw [List.mem_singleton.mp m]; exact Nat.zero_le _
      simp only [wdT, List.length_append, List.length_singleton]; omega
def spBent (K : PySem.W.Frag) : Nat → Sp
  | 0 => fun _ _ _ _ => False
  | n + 1 => fun vs H Q _ => ∃ (l : Addr) (v : V) (t : Th) (r : Nat), vs = [.ref l, v] ∧ Fd (r + 3 * n + 3) H l ∧ IsTh K H t v ∧ gdT t ∧ dpT t ≤ n ∧ wdT t ≤ 60 ∧ ∀ x u H', IsTh K H' u x → Odd t u → Stp l r H H' → Q x H'
section
variable {P : Program} {w : World} {K : PySem.W.Frag} {mg : Str → Option Value} {base : Heap} {f : Addr} {fd : FuncData}
theorem ok_bent (F : Fun K "_law_bent" "_law_bent" s_law_bent f fd) (m : Bn mg) (bd : Binds K fd ["_law_feed_here", "_law_thing"] []) (mf : mg "_law_bent" = some (.ref f)) (g_law_draw : Fn P w K mg base 1 "_law_draw" ["_law_feed_here", "_law_many_here"] spDraw)
    (g_law_odd : Fn P w K mg base 2 "_law_odd" ["_law_feed_here", "_law_thing"] (spOdd K)) :
    ∀ n, FnOk P w K mg base CX0 (n + 3) f fd ["_law_feed_here", "_law_thing"] (spBent K n)
  | 0 => ⟨fun vs H Q E h => h.elim, fun A outer s H args us vs Q E _ _ _ _ h => h.elim⟩
  | n + 1 => by
    have g_law_bent : Fn P w K mg base (n + 3) "_law_bent" ["_law_feed_here", "_law_thing"] (spBent K n) := ⟨f, fd, ok_bent F m bd mf g_law_draw g_law_odd n, bd, F.kp, mf⟩
    refine F.ok sc_law_bent (fun vs H Q E h => ?_) (fun cdv A outer s H vs Q E hr h => ?_)
    · obtain ⟨l, v, t, r, rfl, _⟩ := h
      rfl
    obtain ⟨l, v, t, r, rfl, fe, ht, gd, dp, wd, q⟩ := h
    refine ⟨_, (@pss_cons _ _ _ _ _ (@ps_if _ _ _ _ _ _ _ _ (@PW.pt _ _ _ (@pw_or _ _ _ _ _ _ _ (@pt_not _ _ _ _ (@pt_val _ _ _ (@pe_callB _ _ _ _ _ _ _ _ _ call_isiTh rfl m.isinstance b_isinstance (@pa_cons _ _ _ _ _ (pv 1) (@pa_cons _ _ _ _ _ (@pe_bltnT _ _ _ _ rfl m.tuple b_tuple (by decide) (by decide)) pa_nil rfl) rfl) (by decide) (by decide) rfl rfl) (by intro _; rfl))) (@pw_or _ _ _ _ _ _ _ (@pt_cmpR _ _ _ _ _ _ _ _ op_eqNilT (pv 1) (@pe_tup _ _ _ _ _ pa_nil) (nomark _)) (@pw_or1 _ _ _ _ (@pt_cmpR _ _ _ _ _ _ _ _ op_eq (@pe_callF _ _ _ _ _ _ _ _ _ _ g_law_draw (hr.mono (by omega)) rfl (@pa_cons _ _ _ _ _ (pv 0) (@pa_cons _ _ _ _ _ pe_int pa_nil rfl) rfl) (by decide) rfl rfl) pe_int (nomark _)))))) (@pss_cons _ _ _ _ _ (@ps_if _ _ _ _ _ _ _ _ (@PW.pt _ _ _ (@pw_and _ _ _ _ _ _ _ (@pt_val _ _ _ (@pe_callB _ _ _ _ _ _ _ _ _ call_isiTh rfl m.isinstance b_isinstance (@pa_cons _ _ _ _ _ (pv 1) (@pa_cons _ _ _ _ _ (@pe_bltnT _ _ _ _ rfl m.tuple b_tuple (by decide) (by decide)) pa_nil rfl) rfl) (by decide) (by decide) rfl rfl) (by intro _; rfl)) (@pw_and1 _ _ _ _ (@pt_cmpR _ _ _ _ _ _ _ _ op_eq (@pe_callF _ _ _ _ _ _ _ _ _ _ g_law_draw (hr.mono (by omega)) rfl (@pa_cons _ _ _ _ _ (pv 0) (@pa_cons _ _ _ _ _ pe_int pa_nil rfl) rfl) (by decide) rfl rfl) pe_int (nomark _))))) (@pss_cons _ _ _ _ _ (@ps_setI _ 2 _ _ _ _ _ sc_law_bent.nd rfl (by first | exact Or.inl rfl | exact Or.inr rfl) (@pe_lst _ _ _ _ (@pa_cons _ _ _ _ _ (@pe_callTy _ _ _ _ _ _ _ _ _ call_list_of rfl m.list b_list (@pa_cons _ _ _ _ _ (pv 1) pa_nil rfl) (by first | rfl | decide | (intro _; rfl) | exact .inl rfl | exact .inr rfl | assumption) (by first | rfl | decide | (intro _; rfl) | exact .inl rfl | exact .inr rfl | assumption) (by first | rfl | decide | (intro _; rfl) | exact .inl rfl | exact .inr rfl | assumption) (by first | rfl | decide | (intro _; rfl) | exact .inl rfl | exact .inr rfl | assumption)) (@pa_cons _ _ _ _ _ (@pe_op _ _ _ _ _ _ _ _ op_catG (pv 1) (@pe_slice _ _ _ _ _ _ _ _ _ _ sl_tupG (pv 1) (@po_some _ _ _ (@pe_un _ _ _ _ _ _ un_neg pe_int)) (@po_none _))) (@pa_cons _ _ _ _ _ (@pe_slice _ _ _ _ _ _ _ _ _ _ sl_tupG (pv 1) (@po_some _ _ _ pe_int) (@po_none _)) (@pa_cons _ _ _ _ _ (@pe_revT _ _ _ _ _ _ _ _ (pv 1) (@pe_un _ _ _ _ _ _ un_neg pe_int)) (@pa_cons _ _ _ _ _ (@pe_slice _ _ _ _ _ _ _ _ _ _ sl_tupG (pv 1) (@po_none _) (@po_some _ _ _ (@pe_un _ _ _ _ _ _ un_neg pe_int))) (@pa_cons _ _ _ _ _ (@pe_op _ _ _ _ _ _ _ _ op_catG (pv 1) (@pe_tup _ _ _ _ _ (@pa_cons _ _ _ _ _ (@pe_tup _ _ _ _ _ pa_nil) pa_nil rfl))) pa_nil rfl) rfl) rfl) rfl) rfl) rfl)) rfl (by first | exact .inl rfl | exact .inr rfl)) (@pss_one _ _ _ (@ps_ret _ _ _ _ (@pe_ix _ _ _ _ _ _ _ ix_list (pv 2) (@pe_callF _ _ _ _ _ _ _ _ _ _ g_law_draw (hr.mono (by omega)) rfl (@pa_cons _ _ _ _ _ (pv 0) (@pa_cons _ _ _ _ _ pe_int pa_nil rfl) rfl) (by decide) rfl rfl) (fun _ _ =>  rfl))))) pss_nil) (@pss_one _ _ _ (@ps_ret _ _ _ _ (@pe_callF _ _ _ _ _ _ _ _ _ _ g_law_odd (hr.mono (by omega)) rfl (@pa_cons _ _ _ _ _ (pv 0) (@pa_cons _ _ _ _ _ (pv 1) pa_nil rfl) rfl) (by decide) rfl rfl)))) pss_nil) (@pss_cons _ _ _ _ _ (@ps_setI _ 3 _ _ _ _ _ sc_law_bent.nd rfl (by first | exact Or.inl rfl | exact Or.inr rfl) (@pe_callF _ _ _ _ _ _ _ _ _ _ g_law_draw (hr.mono (by omega)) rfl (@pa_cons _ _ _ _ _ (pv 0) (@pa_cons _ _ _ _ _ (@pe_callB _ _ _ _ _ _ _ _ _ call_len_seq rfl m.len b_len (@pa_cons _ _ _ _ _ (pv 1) pa_nil rfl) (by decide) (by decide) rfl rfl) pa_nil rfl) rfl) (by decide) rfl rfl) rfl (by first | exact .inl rfl | exact .inr rfl)) (@pss_one _ _ _ (@ps_ret _ _ _ _ (@pe_op _ _ _ _ _ _ _ _ op_catG (@pe_op _ _ _ _ _ _ _ _ op_catG (@pe_slice _ _ _ _ _ _ _ _ _ _ sl_tupG (pv 1) (@po_none _) (@po_some _ _ _ (pv 3))) (@pe_tup _ _ _ _ _ (@pa_cons _ _ _ _ _ (@pe_callF _ _ _ _ _ _ _ _ _ _ g_law_bent (hr.mono (by omega)) rfl (@pa_cons _ _ _ _ _ (pv 0) (@pa_cons _ _ _ _ _ (@pe_ix _ _ _ _ _ _ _ ix_tup (pv 1) (pv 3) (fun _ _ =>  rfl)) pa_nil rfl) rfl) (by decide) rfl rfl) pa_nil rfl))) (@pe_slice _ _ _ _ _ _ _ _ _ _ sl_tupG (pv 1) (@po_some _ _ _ (@pe_op _ _ _ _ _ _ _ _ op_add (pv 3) pe_int)) (@po_none _))))))), ?_⟩
    have hu := Room.units0 hr
    refine ⟨_, rfl, _, _, t, rfl, ht, (by simp), _, rfl, ?_⟩
    by_cases htup : isiT "tuple" t = true
    · obtain ⟨ts, rfl⟩ := ts_of htup
      obtain ⟨p, ws, rfl, hp, at'⟩ := ht
      have hl := at'.length
      have lt : ws.length ≤ 60 := by simp only [wdT] at wd; omega
      refine iteF ⟨_, rfl, (by show 0 ≤ sizeLine; decide), fun e0 h0 => ?_⟩
      have s0 := Same.lay (o := .tup []) h0
      refine ⟨p, e0, ws, rfl, rfl, s0.up _ _ hp, SqT.of upd_same, hu, _, rfl, ?_⟩
      have t0 : Stp l (r + 3 * n + 3) H _ := (Stp.refl fe).same s0
      cases hws : ws.isEmpty with
      | true =>
        refine iteT (iteT ?_)
        have t1 : Stp l (r + 3 * n + 1 + 1) H _ := t0.mono (by omega)
        have hp1 := (t1.up (K := K) fe) _ _ hp
        have at1 := AreTh.up (t1.upT fe) _ _ at'
        refine ⟨_, rfl, _, _, .tup ts, rfl, ⟨p, ws, rfl, hp1, at1⟩, (by simp), _, rfl, iteT ?_⟩
        refine ⟨_, rfl, l, 2, r + 3 * n + 1, rfl, t1.feed, by decide, by decide, fun rb H2 b0 b1 t2 => ?_⟩
        have t02 := t1.trans t2
        have hp2 := (t02.up (K := K) fe) _ _ hp
        have at2 := AreTh.up (t02.upT fe) _ _ at'
        refine ⟨rfl, _, rfl, ?_⟩
        refine ite2 (fun cb => ?_) (fun cb => ?_)
        · refine ⟨_, rfl, p, ws, rfl, .inr hp2, fun l1 h1 => ?_⟩
          have s1 := Same.lay (o := .lst ws) h1
          refine ⟨_, rfl, _, rfl, _, rfl, _, rfl, p, ws, rfl, s1.up _ _ hp2, fun q3 H3 s3 hq3 => ?_⟩
          refine ⟨p, q3, ws, _, rfl, rfl, (s1.trans s3).up _ _ hp2, hq3, ?_, fun r3 H4 s4 hr3 => ?_⟩
          · have := cutV_length ws (some (-1)) none
            exact Nat.le_trans (show ws.length + (cutV ws (some (-1)) none).length ≤ 1000 by omega) (by decide)
          have a4 := (s1.trans s3).trans s4
          refine ⟨_, rfl, _, rfl, p, ws, rfl, a4.up _ _ hp2, fun q5 H5 s5 hq5 => ?_⟩
          have a5 := a4.trans s5
          refine ⟨_, rfl, p, ws, rfl, a5.up _ _ hp2, fun p6 h6 => ?_⟩
          have s6 := Same.lay (o := .tup ws.reverse) h6
          have a6 := a5.trans s6
          refine ⟨_, rfl, _, rfl, _, rfl, p, ws, rfl, a6.up _ _ hp2, fun q7 H7 s7 hq7 => ?_⟩
          have a7 := a6.trans s7
          refine ⟨_, rfl, (by show 0 ≤ sizeLine; decide), fun e8 h8 => ⟨(by show 1 ≤ sizeLine; decide), fun e9 h9 => ?_⟩⟩
          have s8 := Same.lay (o := .tup []) h8
          have s9 := Same.lay (o := .tup [.ref e8]) h9
          have a9 := a7.trans (s8.trans s9)
          refine ⟨p, e9, ws, _, rfl, rfl, a9.up _ _ hp2, SqT.of upd_same, ?_, fun r10 H10 s10 hr10 => ?_⟩
          · exact Nat.le_trans (show ws.length + 1 ≤ 1000 by omega) (by decide)
          refine ⟨(by show 6 ≤ sizeLine; decide), fun L hL => ?_⟩
          have s11 := Same.lay (o := .lst [.ref l1, .ref r3, .ref q5, .ref p6, .ref q7, .ref r10]) hL
          have c10 := s10.trans s11
          have c9 := s9.trans c10
          have c8 := s8.trans c9
          have c7 := s7.trans c8
          have c6 := s6.trans c7
          have c5 := s5.trans c6
          have c4 := s4.trans c5
          have c3 := s3.trans c4
          have tL := t02.same (s1.trans c3)
          have atL := AreTh.up (tL.upT fe) _ _ at'
          have all : AreTh K _ (six ts) [.ref l1, .ref r3, .ref q5, .ref p6, .ref q7, .ref r10] :=
            ⟨_, _, rfl, ⟨l1, rfl, .inl ⟨ws, c3 _ _ upd_same⟩⟩, _, _, rfl, ⟨r3, _, rfl, c5.up _ _ hr3, AreTh.append atL (AreTh.cut atL (some (-1)) none)⟩, _, _, rfl, ⟨q5, _, rfl, c6.up _ _ hq5, AreTh.cut atL (some 1) none⟩,
              _, _, rfl, ⟨p6, _, rfl, c7.up _ _ (SqT.of upd_same), atL.reverse⟩, _, _, rfl, ⟨q7, _, rfl, c8.up _ _ hq7, AreTh.cut atL none (some (-1))⟩,
              _, _, rfl, ⟨r10, _, rfl, s11.up _ _ hr10, AreTh.append atL (AreTh.one ⟨e8, _, rfl, c9.up _ _ (SqT.of upd_same), rfl⟩)⟩, rfl⟩
          refine ⟨_, rfl, _, rfl, l, 6, r + 3 * n, rfl, tL.feed, by decide, by decide, fun x HZ a b tZ => ?_⟩
          obtain ⟨u, vu, mu, ev, iu⟩ := pickT all a b
          have nL : L ≠ l := (t02.same (s1.trans (s3.trans (s4.trans (s5.trans (s6.trans (s7.trans (s8.trans (s9.trans s10))))))))).feed.ne hL
          refine ⟨L, _, _, _, rfl, rfl, SqL.of (tZ.keep _ _ nL upd_same), ev, ?_⟩
          exact q vu u HZ (IsTh.up (tZ.upT tL.feed) _ _ iu) (six_odd gd u mu) ((tL.trans tZ).mono (by omega))
        · refine ⟨_, rfl, _, rfl, l, .ref p, .tup ts, r + 3 * n, rfl, t02.feed, ⟨p, ws, rfl, hp2, at2⟩, gd, fun x u H3 iu ou t3 => ?_⟩
          exact q x u H3 iu ou ((t02.trans t3).mono (by omega))
      | false =>
        refine iteF ⟨_, rfl, l, 5, r + 3 * n + 2, rfl, t0.feed, by decide, by decide, fun ra H1 a0 a1 ta => ?_⟩
        have t1 : Stp l (r + 3 * n + 1 + 1) H H1 := t0.trans ta
        have hp1 := (t1.up (K := K) fe) _ _ hp
        have at1 := AreTh.up (t1.upT fe) _ _ at'
        refine ⟨rfl, _, rfl, ?_⟩
        refine ite2 (fun ca => ?_) (fun ca => ?_)
        · skip
          refine ⟨_, rfl, _, _, .tup ts, rfl, ⟨p, ws, rfl, hp1, at1⟩, (by simp), _, rfl, iteT ?_⟩
          refine ⟨_, rfl, l, 2, r + 3 * n + 1, rfl, t1.feed, by decide, by decide, fun rb H2 b0 b1 t2 => ?_⟩
          have t02 := t1.trans t2
          have hp2 := (t02.up (K := K) fe) _ _ hp
          have at2 := AreTh.up (t02.upT fe) _ _ at'
          refine ⟨rfl, _, rfl, ?_⟩
          refine ite2 (fun cb => ?_) (fun cb => ?_)
          · refine ⟨_, rfl, p, ws, rfl, .inr hp2, fun l1 h1 => ?_⟩
            have s1 := Same.lay (o := .lst ws) h1
            refine ⟨_, rfl, _, rfl, _, rfl, _, rfl, p, ws, rfl, s1.up _ _ hp2, fun q3 H3 s3 hq3 => ?_⟩
            refine ⟨p, q3, ws, _, rfl, rfl, (s1.trans s3).up _ _ hp2, hq3, ?_, fun r3 H4 s4 hr3 => ?_⟩
            · have := cutV_length ws (some (-1)) none
              exact Nat.le_trans (show ws.length + (cutV ws (some (-1)) none).length ≤ 1000 by omega) (by decide)
            have a4 := (s1.trans s3).trans s4
            refine ⟨_, rfl, _, rfl, p, ws, rfl, a4.up _ _ hp2, fun q5 H5 s5 hq5 => ?_⟩
            have a5 := a4.trans s5
            refine ⟨_, rfl, p, ws, rfl, a5.up _ _ hp2, fun p6 h6 => ?_⟩
            have s6 := Same.lay (o := .tup ws.reverse) h6
            have a6 := a5.trans s6
            refine ⟨_, rfl, _, rfl, _, rfl, p, ws, rfl, a6.up _ _ hp2, fun q7 H7 s7 hq7 => ?_⟩
            have a7 := a6.trans s7
            refine ⟨_, rfl, (by show 0 ≤ sizeLine; decide), fun e8 h8 => ⟨(by show 1 ≤ sizeLine; decide), fun e9 h9 => ?_⟩⟩
            have s8 := Same.lay (o := .tup []) h8
            have s9 := Same.lay (o := .tup [.ref e8]) h9
            have a9 := a7.trans (s8.trans s9)
            refine ⟨p, e9, ws, _, rfl, rfl, a9.up _ _ hp2, SqT.of upd_same, ?_, fun r10 H10 s10 hr10 => ?_⟩
            · exact Nat.le_trans (show ws.length + 1 ≤ 1000 by omega) (by decide)
            refine ⟨(by show 6 ≤ sizeLine; decide), fun L hL => ?_⟩
            have s11 := Same.lay (o := .lst [.ref l1, .ref r3, .ref q5, .ref p6, .ref q7, .ref r10]) hL
            have c10 := s10.trans s11
            have c9 := s9.trans c10
            have c8 := s8.trans c9
            have c7 := s7.trans c8
            have c6 := s6.trans c7
            have c5 := s5.trans c6
            have c4 := s4.trans c5
            have c3 := s3.trans c4
            have tL := t02.same (s1.trans c3)
            have atL := AreTh.up (tL.upT fe) _ _ at'
            have all : AreTh K _ (six ts) [.ref l1, .ref r3, .ref q5, .ref p6, .ref q7, .ref r10] :=
              ⟨_, _, rfl, ⟨l1, rfl, .inl ⟨ws, c3 _ _ upd_same⟩⟩, _, _, rfl, ⟨r3, _, rfl, c5.up _ _ hr3, AreTh.append atL (AreTh.cut atL (some (-1)) none)⟩, _, _, rfl, ⟨q5, _, rfl, c6.up _ _ hq5, AreTh.cut atL (some 1) none⟩,
                _, _, rfl, ⟨p6, _, rfl, c7.up _ _ (SqT.of upd_same), atL.reverse⟩, _, _, rfl, ⟨q7, _, rfl, c8.up _ _ hq7, AreTh.cut atL none (some (-1))⟩,
                _, _, rfl, ⟨r10, _, rfl, s11.up _ _ hr10, AreTh.append atL (AreTh.one ⟨e8, _, rfl, c9.up _ _ (SqT.of upd_same), rfl⟩)⟩, rfl⟩
            refine ⟨_, rfl, _, rfl, l, 6, r + 3 * n, rfl, tL.feed, by decide, by decide, fun x HZ a b tZ => ?_⟩
            obtain ⟨u, vu, mu, ev, iu⟩ := pickT all a b
            have nL : L ≠ l := (t02.same (s1.trans (s3.trans (s4.trans (s5.trans (s6.trans (s7.trans (s8.trans (s9.trans s10))))))))).feed.ne hL
            refine ⟨L, _, _, _, rfl, rfl, SqL.of (tZ.keep _ _ nL upd_same), ev, ?_⟩
            exact q vu u HZ (IsTh.up (tZ.upT tL.feed) _ _ iu) (six_odd gd u mu) ((tL.trans tZ).mono (by omega))
          · refine ⟨_, rfl, _, rfl, l, .ref p, .tup ts, r + 3 * n, rfl, t02.feed, ⟨p, ws, rfl, hp2, at2⟩, gd, fun x u H3 iu ou t3 => ?_⟩
            exact q x u H3 iu ou ((t02.trans t3).mono (by omega))
        · refine ⟨_, rfl, _, rfl, p, ws, rfl, .inr hp1, l, _, r + 3 * n + 1, rfl, t1.feed, ?_, ?_, fun k H2 k0 k1 t2 => ?_⟩
          · have : ws ≠ [] := fun z => by rw [z] at hws; cases hws
            have := List.length_pos_iff.mpr this
            omega
          · omega
          have t02 := t1.trans t2
          have hp2 := (t02.up (K := K) fe) _ _ hp
          have at2 := AreTh.up (t02.upT fe) _ _ at'
          refine ⟨_, rfl, _, rfl, _, rfl, p, ws, rfl, hp2, fun q1 H3 s3 hq1 => ?_⟩
          rw [cut_to ws k0 k1] at hq1
          have hp3 := s3.up (K := K) _ _ hp2
          have at3 := AreTh.up s3.upT _ _ at2
          have t03 := t02.same s3
          have kn : k.toNat < ts.length := by rw [hl]; omega
          obtain ⟨vk, ek0, ik⟩ := at3.get (List.getElem?_eq_getElem kn)
          have mk : ts[k.toNat] ∈ ts := List.getElem_mem kn
          have ek : atI ws k = some vk := by
            have z : atI ws ((k.toNat : Nat) : Int) = some vk := atI_nat ek0
            rw [show ((k.toNat : Nat) : Int) = k by omega] at z
            exact z
          generalize ts[k.toNat] = tk at ik mk
          have dk' : dpT tk ≤ dpTs ts := dpT_mem mk
          have wk : wdT tk ≤ wdTs ts := wdT_mem mk
          obtain ⟨n', rfl⟩ : ∃ n', n = n' + 1 := ⟨n - 1, by simp only [dpT] at dp; omega⟩
          refine ⟨_, rfl, _, rfl, _, rfl, p, _, _, _, rfl, rfl, hp3, ek, l, vk, tk, r, rfl, t03.feed.mono (by omega), ik, gdTs_all.mp gd tk mk, ?_, ?_, fun x u H4 ir ou t4 => ?_⟩
          · simp only [dpT] at dp; omega
          · simp only [wdT] at wd; omega
          refine ⟨(by show 1 ≤ sizeLine; decide), fun p5 h5 => ?_⟩
          have s5 := Same.lay (o := .tup [x]) h5
          have lw : (ws.take k.toNat).length + 1 ≤ 1000 := by rw [List.length_take]; omega
          refine ⟨q1, p5, _, _, rfl, rfl, s5.up _ _ ((t4.up t03.feed) _ _ hq1), SqT.of upd_same, Nat.le_trans lw (by decide), fun p6 H6 s6 h6 => ?_⟩
          have t06 := (t03.trans t4).same (s5.trans s6)
          have hp6 := (t06.up (K := K) fe) _ _ hp
          refine ⟨_, rfl, _, rfl, _, _, rfl, rfl, _, rfl, p, ws, rfl, hp6, fun q7 H7 s7 hq7 => ?_⟩
          rw [cut_from ws k0 k1] at hq7
          have lw2 : (ws.take k.toNat ++ [x]).length + (ws.drop (k.toNat + 1)).length ≤ 1000 := by rw [List.length_append, List.length_take, List.length_drop, List.length_singleton]; omega
          refine ⟨p6, q7, _, _, rfl, rfl, s7.up _ _ h6, hq7, Nat.le_trans lw2 (by decide), fun p8 H8 s8 h8 => ?_⟩
          have t08 := t06.same (s7.trans s8)
          have at8 := AreTh.up (t08.upT fe) _ _ at'
          have iu8 := IsTh.up (((s5.trans s6).trans (s7.trans s8)).upT) _ _ ir
          refine q (.ref p8) (.tup (ts.take k.toNat ++ [u] ++ ts.drop (k.toNat + 1))) H8 ⟨p8, _, rfl, h8, AreTh.append (AreTh.append (at8.take _) (AreTh.one iu8)) (at8.drop _)⟩ ⟨gdTs_all.mpr fun y my => ?_, ?_, ?_⟩ t08
          · rcases List.mem_append.mp my with my | my
            · rcases List.mem_append.mp my with my | my
              · exact gdTs_all.mp gd y (List.mem_of_mem_take my)
              · rw [List.mem_singleton.mp my]; exact ou.gd
            · exact gdTs_all.mp gd y (List.mem_of_mem_drop my)
          · have du := ou.dp
            have : dpTs (ts.take k.toNat ++ [u] ++ ts.drop (k.toNat + 1)) ≤ dpTs ts + 2 := dpTs_le fun y my => by
              rcases List.mem_append.mp my with my | my
              · rcases List.mem_append.mp my with my | my
                · have := dpT_mem (List.mem_of_mem_take my); omega
                · rw [List.mem_singleton.mp my]; omega
              · have := dpT_mem (List.mem_of_mem_drop my); omega
            simp only [dpT]; omega
          · have wu := ou.wd
            have h1 : wdTs (ts.take k.toNat ++ [u] ++ ts.drop (k.toNat + 1)) ≤ wdTs ts + 1 := wdTs_le fun y my => by
              rcases List.mem_append.mp my with my | my
              · rcases List.mem_append.mp my with my | my
                · have := wdT_mem (List.mem_of_mem_take my); omega
                · rw [List.mem_singleton.mp my]; omega
              · have := wdT_mem (List.mem_of_mem_drop my); omega
            have h2 : (ts.take k.toNat ++ [u] ++ ts.drop (k.toNat + 1)).length = ts.length := by
              rw [List.length_append, List.length_append, List.length_take, List.length_drop, List.length_singleton]; omega
            simp only [wdT, h2]; omega
    · have hno : isiT "tuple" t = false := by simpa using htup
      refine iteY (by rw [hno]; rfl) (iteT ?_)
      refine ⟨_, rfl, _, _, t, rfl, ht, (by simp), _, rfl, iteN hno ?_⟩
      exact ⟨_, rfl, _, rfl, l, v, t, r + 3 * n + 2, rfl, fe, ht, gd, fun x u H3 iu ou t3 => q x u H3 iu ou (t3.mono (by omega))⟩
end
end K19
namespace K19
open PySem PySem.Spec PyProof.Rows L2 K01
abbrev s_law_names : Stmt := top 28
abbrev N_law_names : List Str := ["_law_feed_here", "_law_many_here", "_law_some", "_law_first", "_law_step"]
theorem sc_law_names : FnScope N_law_names ["_law_feed_here", "_law_many_here"] (defScope s_law_names) := ⟨rfl, rfl, rfl, by decide +kernel, rfl, by decide +kernel, by decide +kernel⟩
def WORDS : List Str := ["a", "ab", "abc", "make", "form", "row", "text", "must", "none", "b", "mak", "abcdefgh"]
def nmL (f s : Nat) (m : Nat) : List Str := (List.range m).map fun k => WORDS.getD ((f + s * k) % 12) "a"
theorem nmL_succ (f s i : Nat) : nmL f s (i + 1) = nmL f s i ++ [WORDS.getD ((f + s * i) % 12) "a"] := by
  unfold nmL
  rw [List.range_succ, List.map_append]; rfl
theorem nmL_len (f s m : Nat) : (nmL f s m).length = m := by unfold nmL; rw [List.length_map, List.length_range]
theorem nmL_mem {f s m : Nat} {x : Str} (h : x ∈ nmL f s m) : x ∈ WORDS := by
  unfold nmL at h
  obtain ⟨k, _, rfl⟩ := List.mem_map.mp h
  have hk : (f + s * k) % 12 < WORDS.length := Nat.mod_lt _ (by decide)
  rw [List.getD_eq_getElem?_getD, List.getElem?_eq_getElem hk]
  exact List.getElem_mem hk
theorem nmL_pre (f s : Nat) : ∀ {m : Nat}, m ≤ 8 → nmL f s m = (nmL f s 8).take m := fun {m} h => by
  unfold nmL
  rw [← List.map_take, List.take_range, Nat.min_eq_left h]
theorem nmL_eight : ∀ f < 12, ∀ s ∈ [1, 5, 7, 11], (nmL f s 8).Nodup := by decide +kernel
theorem nmL_nodup {f s m : Nat} (hf : f < 12) (hs : s ∈ [1, 5, 7, 11]) (hm : m ≤ 8) : (nmL f s m).Nodup := by
  rw [nmL_pre f s hm]
  exact List.Sublist.nodup (List.take_sublist _ _) (nmL_eight f hf s hs)
structure Names (ss : List Str) (m : Nat) : Prop where
  len : ss.length = m
  mem : ∀ x ∈ ss, x ∈ WORDS
  nd : ss.Nodup
def spNames : Sp := fun vs H Q _ => ∃ (l : Addr) (m r : Nat), vs = [.ref l, .int m] ∧ Fd (r + 2) H l ∧ m ≤ 8 ∧ ∀ (p : Addr) (ss : List Str) (H' : Hp), H' p = some (.lst (ss.map V.str)) → H p = none → Names ss m → Stp l r H H' → Q (.ref p) H'
section
variable {P : Program} {w : World} {K : PySem.W.Frag} {mg : Str → Option Value} {base : Heap} {f : Addr} {fd : FuncData}
theorem ok_names (F : Fun K "_law_names" "_law_names" s_law_names f fd) (m : Bn mg) (g_law_draw : Fn P w K mg base 1 "_law_draw" ["_law_feed_here", "_law_many_here"] spDraw) : FnOk P w K mg base CX0 2 f fd ["_law_feed_here", "_law_many_here"] spNames := by
  refine F.ok sc_law_names (fun vs H Q E h => ?_) (fun cdv A outer s H vs Q E hr h => ?_)
  · obtain ⟨l, m, r, rfl, _⟩ := h
    rfl
  obtain ⟨l, mm, r, rfl, fe, h8, q⟩ := h
  refine ⟨_, (@pss_cons _ _ _ _ _ (@ps_setI _ 2 _ _ _ _ _ sc_law_names.nd rfl (by first | exact Or.inl rfl | exact Or.inr rfl) (@pe_lst _ _ _ _ (@pa_cons _ _ _ _ _ pe_str (@pa_cons _ _ _ _ _ pe_str (@pa_cons _ _ _ _ _ pe_str (@pa_cons _ _ _ _ _ pe_str (@pa_cons _ _ _ _ _ pe_str (@pa_cons _ _ _ _ _ pe_str (@pa_cons _ _ _ _ _ pe_str (@pa_cons _ _ _ _ _ pe_str (@pa_cons _ _ _ _ _ pe_str (@pa_cons _ _ _ _ _ pe_str (@pa_cons _ _ _ _ _ pe_str (@pa_cons _ _ _ _ _ pe_str pa_nil rfl) rfl) rfl) rfl) rfl) rfl) rfl) rfl) rfl) rfl) rfl) rfl)) rfl (by first | exact .inl rfl | exact .inr rfl)) (@pss_cons _ _ _ _ _ (@ps_setI _ 3 _ _ _ _ _ sc_law_names.nd rfl (by first | exact Or.inl rfl | exact Or.inr rfl) (@pe_callF _ _ _ _ _ _ _ _ _ _ g_law_draw (hr.mono (by omega)) rfl (@pa_cons _ _ _ _ _ (pv 0) (@pa_cons _ _ _ _ _ pe_int pa_nil rfl) rfl) (by decide) rfl rfl) rfl (by first | exact .inl rfl | exact .inr rfl)) (@pss_cons _ _ _ _ _ (@ps_setI _ 4 _ _ _ _ _ sc_law_names.nd rfl (by first | exact Or.inl rfl | exact Or.inr rfl) (@pe_ix _ _ _ _ _ _ _ ix_list (@pe_lst _ _ _ _ (@pa_ints _ _ [1, 5, 7, 11] rfl)) (@pe_callF _ _ _ _ _ _ _ _ _ _ g_law_draw (hr.mono (by omega)) rfl (@pa_cons _ _ _ _ _ (pv 0) (@pa_cons _ _ _ _ _ pe_int pa_nil rfl) rfl) (by decide) rfl rfl) (fun _ _ =>  rfl)) rfl (by first | exact .inl rfl | exact .inr rfl)) (@pss_one _ _ _ (@ps_ret _ _ _ _ (@pe_compI _ N_law_names (defScope s_law_names) ["_law_k", "_law_some", "_law_first", "_law_step"] [none, some 2, some 3, some 4] _ _ _ _ _ _ _ _ _ _ rfl (@pi_range1 _ _ _ _ _ _ rfl m.range (@pa_cons _ _ _ _ _ (pv 1) pa_nil rfl) (by first | rfl | decide | (intro _; rfl) | exact .inl rfl | exact .inr rfl | assumption)) ⟨rfl, rfl, by decide +kernel, by decide +kernel⟩ (fun _ _ _ =>  (@pg_nameI _ 0 _ _ (show List.Nodup (["_law_k", "_law_some", "_law_first", "_law_step"] : List Str) from by decide +kernel) rfl (Or.inl rfl) (by first | exact .inl rfl | exact .inr rfl))) (fun _ _ _ =>  pts_nil) (fun _ _ _ =>  (@pe_ix _ _ _ _ _ _ _ ix_list (pv 1) (@pe_op _ _ _ _ _ _ _ _ op_mod (@pe_op _ _ _ _ _ _ _ _ op_add (pv 2) (@pe_op _ _ _ _ _ _ _ _ op_mul (pv 3) (pv 0))) pe_int) (fun _ _ =>  rfl))) (by first | rfl | decide | (intro _; rfl) | exact .inl rfl | exact .inr rfl | assumption))))))), ?_⟩
  refine ⟨(by show 12 ≤ sizeLine; decide), fun L hL => ?_⟩
  have s1 := Same.lay (o := .lst (WORDS.map V.str)) hL
  have t1 : Stp l (r + 2) H _ := (Stp.refl fe).same s1
  refine ⟨_, rfl, l, 12, r + 1, rfl, t1.feed, by decide, by decide, fun x H2 x0 x1 t2 => ?_⟩
  have t02 := t1.trans t2
  have nL : L ≠ l := fe.ne hL
  have hL2 : H2 L = some (.lst (WORDS.map V.str)) := t2.keep _ _ nL upd_same
  refine ⟨(by show 4 ≤ sizeLine; decide), fun L3 h3 => ?_⟩
  have s3 := Same.lay (o := .lst ([1, 5, 7, 11].map V.int)) h3
  have t03 := t02.same s3
  refine ⟨_, rfl, l, 4, r, rfl, t03.feed, by decide, by decide, fun y H4 y0 y1 t4 => ?_⟩
  have t04 := t03.trans t4
  have n3 : L3 ≠ l := t02.feed.ne h3
  obtain ⟨st, mst, est⟩ := pickI [1, 5, 7, 11] y0 y1
  refine ⟨L3, _, _, _, rfl, rfl, SqL.of (t4.keep _ _ n3 upd_same), est, ?_⟩
  have hL4 : H4 L = some (.lst (WORDS.map V.str)) := t4.keep _ _ nL (s3 _ _ hL2)
  obtain ⟨fn, rfl⟩ : ∃ n : Nat, x = n := ⟨x.toNat, by omega⟩
  obtain ⟨sn, rfl, msn⟩ : ∃ n : Nat, st = n ∧ n ∈ [1, 5, 7, 11] := by
    simp only [List.mem_cons, List.not_mem_nil, or_false] at mst
    rcases mst with rfl | rfl | rfl | rfl
    · exact ⟨1, rfl, by decide⟩
    · exact ⟨5, rfl, by decide⟩
    · exact ⟨7, rfl, by decide⟩
    · exact ⟨11, rfl, by decide⟩
  refine ⟨_, rfl, _, rfl, by omega, by omega, fun D fp sx hD => ?_⟩
  refine comp_range (fun i zs σ H5 => (∃ o, σ = [o, some (.ref L), some (.int fn), some (.int sn)]) ∧ zs = (nmL fn sn i).map V.str ∧ Same H4 H5 ∧ H5 D = some (.lst zs)) ⟨⟨_, rfl⟩, rfl, (Same.refl H4).put hD, upd_same⟩ ?_ ?_ ?_
  · rintro i zs σ H5 hi ⟨_, _, s5, h5⟩
    exact h5
  · rintro i zs σ H5 hi ⟨⟨o, rfl⟩, rfl, s5, h5⟩
    refine goAlways ?_
    have hk : (fn + sn * i) % 12 < WORDS.length := Nat.mod_lt _ (by decide)
    have ev : atI (WORDS.map V.str) (((fn : Int) + (sn : Int) * (0 + (i : Int))) % 12) = some (.str (WORDS.getD ((fn + sn * i) % 12) "a")) := by
      rw [show ((fn : Int) + (sn : Int) * (0 + (i : Int))) % 12 = (((fn + sn * i) % 12 : Nat) : Int) by rw [Int.zero_add]; omega]
      refine atI_nat ?_
      rw [List.getElem?_map, List.getElem?_eq_getElem hk, List.getD_eq_getElem?_getD, List.getElem?_eq_getElem hk]; rfl
    have sb : sn ≤ 11 := by
      simp only [List.mem_cons, List.not_mem_nil, or_false] at msn
      omega
    refine ⟨_, rfl, _, rfl, _, rfl, _, rfl, _, _, rfl, rfl, .inl ⟨by omega, by omega⟩, _, _, rfl, rfl, _, _, rfl, rfl, (show (0 : Int) < 12 by decide), L, _, _, _, rfl, rfl, SqL.of (s5 _ _ hL4), ev, h5, ?_, ⟨_, rfl⟩, ?_, s5.put hD, upd_same⟩
    · rw [List.length_map, nmL_len]; exact Nat.lt_of_lt_of_le (show i < 8 by have : i < ((mm : Nat) : Int).toNat := hi; omega) (by decide)
    · rw [nmL_succ, List.map_append]; rfl
  · rintro zs σ H5 ⟨_, rfl, s5, h5⟩
    have e : ((mm : Nat) : Int).toNat = mm := by omega
    have h5 : H5 D = some (.lst ((nmL fn sn ((mm : Nat) : Int).toNat).map V.str)) := h5
    rw [e] at h5
    exact q D _ H5 h5 (t04.free hD) ⟨nmL_len _ _ _, fun x h => nmL_mem h, nmL_nodup (by omega) msn h8⟩ (t04.same s5)
end
end K19
namespace K19
open PySem PySem.Spec PyProof.Rows L2 K01
abbrev s_law_numbers : Stmt := top 29
abbrev N_law_numbers : List Str := ["_law_feed_here", "_law_most", "_law_some"]
theorem sc_law_numbers : FnScope N_law_numbers ["_law_feed_here", "_law_most"] (defScope s_law_numbers) := ⟨rfl, rfl, rfl, by decide +kernel, rfl, by decide +kernel, by decide +kernel⟩
abbrev s_law_struck : Stmt := top 32
abbrev N_law_struck : List Str := ["_law_feed_here", "_law_numbers_here"]
theorem sc_law_struck : FnScope N_law_struck ["_law_feed_here", "_law_numbers_here"] (defScope s_law_struck) := ⟨rfl, rfl, rfl, by decide +kernel, rfl, by decide +kernel, by decide +kernel⟩
def NUMS : List Int := [1, 2, 3, 9, 10, 99, 100, 999]
def STRK : List Int := [4, 11, 99, 998]
def spNumbers : Sp := fun vs H Q _ => ∃ (l : Addr) (m r : Nat), vs = [.ref l, .int m] ∧ Fd (r + 8) H l ∧ ∀ (p : Addr) (ns : List Int) (H' : Hp), H' p = some (.lst (ns.map V.int)) → H p = none → ns.Sublist NUMS → ns.length ≤ m → Stp l r H H' → Q (.ref p) H'
def spStruckD (K : PySem.W.Frag) : Sp := fun vs H Q _ => ∃ (l p : Addr) (ns : List Int) (r : Nat), vs = [.ref l, .ref p] ∧ H p = some (.lst (ns.map V.int)) ∧ Fd (r + 4) H l ∧ ∀ (q : Addr) (us : List Int) (H' : Hp), SqT K H' q (us.map V.int) → us.Sublist STRK → (∀ u ∈ us, u ∉ ns) → Stp l r H H' → Q (.ref q) H'
theorem inV_int (n : Int) : ∀ ns : List Int, inV (.int n) (ns.map V.int) = decide (n ∈ ns)
  | [] => by simp [inV]
  | k :: ns => by
    have ih := inV_int n ns
    unfold inV at ih ⊢
    rw [List.map_cons, List.any_cons, ih]
    show (decide (k = n) || decide (n ∈ ns)) = _
    by_cases h : k = n
    · subst h; simp
    · have : ¬ n = k := fun z => h z.symm
      simp [h, this]
section
variable {P : Program} {w : World} {K : PySem.W.Frag} {mg : Str → Option Value} {base : Heap} {f : Addr} {fd : FuncData}
theorem ok_numbers (F : Fun K "_law_numbers" "_law_numbers" s_law_numbers f fd) (m : Bn mg) (g_law_draw : Fn P w K mg base 1 "_law_draw" ["_law_feed_here", "_law_many_here"] spDraw) : FnOk P w K mg base CX0 2 f fd ["_law_feed_here", "_law_most"] spNumbers := by
  refine F.ok sc_law_numbers (fun vs H Q E h => ?_) (fun cdv A outer s H vs Q E hr h => ?_)
  · obtain ⟨l, m, r, rfl, _⟩ := h
    rfl
  obtain ⟨l, mm, r, rfl, fe, q⟩ := h
  refine ⟨_, (@pss_cons _ _ _ _ _ (@ps_setCompI _ 2 N_law_numbers (defScope s_law_numbers) ["_law_number", "_law_feed_here"] [none, some 0] _ _ _ _ _ _ _ _ _ _ _ _ _ sc_law_numbers.nd rfl (by first | exact Or.inl rfl | exact Or.inr rfl) rfl (@pi_list _ _ _ _ (@pe_lst _ _ _ _ (@pa_ints _ _ [1, 2, 3, 9, 10, 99, 100, 999] rfl))) ⟨rfl, rfl, by decide +kernel, by decide +kernel⟩ (fun _ _ _ =>  (@pg_nameI _ 0 _ _ (show List.Nodup (["_law_number", "_law_feed_here"] : List Str) from by decide +kernel) rfl (Or.inl rfl) (by first | exact .inl rfl | exact .inr rfl))) (fun _ _ _ =>  (@pts_one _ _ _ (@pt_cmpR _ _ _ _ _ _ _ _ op_eq (@pe_callF _ _ _ _ _ _ _ _ _ _ g_law_draw (hr.mono (by omega)) rfl (@pa_cons _ _ _ _ _ (pv 1) (@pa_cons _ _ _ _ _ pe_int pa_nil rfl) rfl) (by decide) rfl rfl) pe_int (nomark _)))) (fun _ _ _ =>  (pv 0)) (by first | rfl | decide | (intro _; rfl) | exact .inl rfl | exact .inr rfl | assumption) (by first | rfl | decide | (intro _; rfl) | exact .inl rfl | exact .inr rfl | assumption) (by first | rfl | decide | (intro _; rfl) | exact .inl rfl | exact .inr rfl | assumption)) (@pss_one _ _ _ (@ps_ret _ _ _ _ (@pe_slice _ _ _ _ _ _ _ _ _ _ sl_list (pv 2) (@po_none _) (@po_some _ _ _ (pv 1)))))), ?_⟩
  refine ⟨(by show 8 ≤ sizeLine; decide), fun L hL => ⟨L, rfl, ⟨_, SqL.of upd_same⟩, fun D fp sx hD => ?_⟩⟩
  have s1 := Same.lay (o := .lst (NUMS.map V.int)) hL
  have f1 : Fd (r + 8) (upd H L (.lst (NUMS.map V.int))) l := fe.same s1
  have nD : D ≠ l := f1.ne hD
  have nL : L ≠ l := fe.ne hL
  have nLD : L ≠ D := fun e => by rw [← e, upd_same] at hD; cases hD
  refine comp_list (K := K) (xs := NUMS.map V.int) (fun i ys σ H5 => (∃ o, σ = [o, some (.ref l)]) ∧ (∃ ns : List Int, ys = ns.map V.int ∧ ns.Sublist (NUMS.take i)) ∧ Stp l (r + (8 - i)) (upd H L (.lst (NUMS.map V.int))) H5 ∧ H5 L = some (.lst (NUMS.map V.int)) ∧ H5 D = some (.lst ys))
    ⟨⟨_, rfl⟩, ⟨[], rfl, .slnil⟩, (Stp.refl f1).put hD (f1.far hD), by rw [upd_ne nLD]; exact upd_same, upd_same⟩ ?_ ?_ ?_
  · rintro i ys σ H5 hi ⟨_, _, t5, h5, h6⟩
    exact ⟨SqL.of h5, h6⟩
  · rintro i x ys σ H5 hx ⟨⟨o, rfl⟩, ⟨ns, rfl, sb⟩, t5, h5, h6⟩
    rw [List.getElem?_map] at hx
    obtain ⟨n, en, rfl⟩ := Option.map_eq_some_iff.mp hx
    have hi : i < 8 := (List.getElem?_eq_some_iff.mp en).1
    have tk := take_more en
    refine goOn ?_
    refine ⟨_, rfl, l, 3, r + (8 - (i + 1)), rfl, t5.feed.mono (by omega), by decide, by decide, fun z H6 z0 z1 t6 => ?_⟩
    have t56 := t5.trans t6
    have h6D := t6.keep _ _ nD h6
    have h6L := t6.keep _ _ nL h5
    refine ⟨rfl, _, rfl, ?_⟩
    refine ite2 (fun c => ?_) (fun c => ?_)
    · refine ⟨_, rfl, h6D, ?_, ⟨_, rfl⟩, ⟨ns ++ [n], by rw [List.map_append]; rfl, ?_⟩, t56.put hD (f1.far hD), by rw [upd_ne nLD]; exact h6L, upd_same⟩
      · have := sb.length_le
        rw [List.length_take] at this
        rw [List.length_map]; exact Nat.lt_of_le_of_lt (show ns.length ≤ 8 by omega) (by decide)
      · rw [tk]; exact sb.append (List.Sublist.refl _)
    · exact ⟨⟨_, rfl⟩, ⟨ns, rfl, by rw [tk]; exact sb.trans (List.sublist_append_left _ _)⟩, t56, h6L, h6D⟩
  · rintro ys σ H5 ⟨_, ⟨ns, rfl, sb⟩, t5, h5, h6⟩
    refine ⟨_, rfl, _, rfl, _, rfl, D, _, rfl, SqL.of h6, fun p hp => ?_⟩
    have e : cutV (ns.map V.int) none (some ((mm : Nat) : Int)) = (ns.take mm).map V.int := by
      unfold cutV
      rw [HT.sIx_nat, HT.sIx_none, List.drop_zero, Nat.sub_zero, List.map_take]
      by_cases h : mm ≤ (ns.map V.int).length
      · rw [Nat.min_eq_left h]
      · rw [Nat.min_eq_right (by omega), List.take_of_length_le (Nat.le_refl _), List.take_of_length_le (by omega)]
    rw [e]
    have t7 := t5.lay (o := .lst ((ns.take mm).map V.int)) hp
    refine q p (ns.take mm) _ upd_same (s1.free (t5.free hp)) ((List.take_sublist _ _).trans sb) (by rw [List.length_take]; omega) ?_
    exact ((Stp.refl fe).same s1).trans (t7.mono (by omega))
theorem ok_struckD (F : Fun K "_law_struck" "_law_struck" s_law_struck f fd) (m : Bn mg) (g_law_draw : Fn P w K mg base 1 "_law_draw" ["_law_feed_here", "_law_many_here"] spDraw) : FnOk P w K mg base CX0 2 f fd ["_law_feed_here", "_law_numbers_here"] (spStruckD K) := by
  refine F.ok sc_law_struck (fun vs H Q E h => ?_) (fun cdv A outer s H vs Q E hr h => ?_)
  · obtain ⟨l, p, ns, r, rfl, _⟩ := h
    rfl
  obtain ⟨l, p, tk, r, rfl, hp, fe, q⟩ := h
  refine ⟨_, (@pss_one _ _ _ (@ps_ret _ _ _ _ (@pe_callTy _ _ _ _ _ _ _ _ _ call_tuple_of rfl m.tuple b_tuple (@pa_cons _ _ _ _ _ (@pe_compI _ N_law_struck (defScope s_law_struck) ["_law_number", "_law_numbers_here", "_law_feed_here"] [none, some 1, some 0] _ _ _ _ _ _ _ _ _ _ rfl (@pi_list _ _ _ _ (@pe_lst _ _ _ _ (@pa_ints _ _ [4, 11, 99, 998] rfl))) ⟨rfl, rfl, by decide +kernel, by decide +kernel⟩ (fun _ _ _ =>  (@pg_nameI _ 0 _ _ (show List.Nodup (["_law_number", "_law_numbers_here", "_law_feed_here"] : List Str) from by decide +kernel) rfl (Or.inl rfl) (by first | exact .inl rfl | exact .inr rfl))) (fun _ _ _ =>  (@pts_one _ _ _ (@PW.pt _ _ _ (@pw_and _ _ _ _ _ _ _ (@pt_cmpR _ _ _ _ _ _ _ _ op_notIn_seq (pv 0) (pv 1) rfl) (@pw_and1 _ _ _ _ (@pt_cmpR _ _ _ _ _ _ _ _ op_eq (@pe_callF _ _ _ _ _ _ _ _ _ _ g_law_draw (hr.mono (by omega)) rfl (@pa_cons _ _ _ _ _ (pv 2) (@pa_cons _ _ _ _ _ pe_int pa_nil rfl) rfl) (by decide) rfl rfl) pe_int (nomark _))))))) (fun _ _ _ =>  (pv 0)) (by first | rfl | decide | (intro _; rfl) | exact .inl rfl | exact .inr rfl | assumption)) pa_nil rfl) (by first | rfl | decide | (intro _; rfl) | exact .inl rfl | exact .inr rfl | assumption) (by first | rfl | decide | (intro _; rfl) | exact .inl rfl | exact .inr rfl | assumption) (by first | rfl | decide | (intro _; rfl) | exact .inl rfl | exact .inr rfl | assumption) (by first | rfl | decide | (intro _; rfl) | exact .inl rfl | exact .inr rfl | assumption)))), ?_⟩
  refine ⟨(by show 4 ≤ sizeLine; decide), fun L hL => ⟨L, rfl, ⟨_, SqL.of upd_same⟩, fun D fp sx hD => ?_⟩⟩
  have s1 := Same.lay (o := .lst (STRK.map V.int)) hL
  have f1 : Fd (r + 4) (upd H L (.lst (STRK.map V.int))) l := fe.same s1
  have nD : D ≠ l := f1.ne hD
  have nL : L ≠ l := fe.ne hL
  have nLD : L ≠ D := fun e => by rw [← e, upd_same] at hD; cases hD
  have np : p ≠ l := fun e => by
    obtain ⟨a, ks, b, c, d, e1, _⟩ := fe
    rw [e, e1] at hp
    injection hp with hp
    injection hp with hp
    cases tk with
    | nil => cases hp
    | cons n ns => injection hp with h3 _; cases h3
  have hp1 := s1 _ _ hp
  have npD : p ≠ D := ne_of_none hp1 hD
  refine comp_list (K := K) (xs := STRK.map V.int) (fun i ys σ H5 => (∃ o, σ = [o, some (.ref p), some (.ref l)]) ∧ (∃ ns : List Int, ys = ns.map V.int ∧ ns.Sublist (STRK.take i) ∧ ∀ u ∈ ns, u ∉ tk) ∧ Stp l (r + (4 - i)) (upd H L (.lst (STRK.map V.int))) H5 ∧ H5 L = some (.lst (STRK.map V.int)) ∧ H5 D = some (.lst ys) ∧ H5 p = some (.lst (tk.map V.int)))
    ⟨⟨_, rfl⟩, ⟨[], rfl, .slnil, fun u mu => absurd mu List.not_mem_nil⟩, (Stp.refl f1).put hD (f1.far hD), by rw [upd_ne nLD]; exact upd_same, upd_same, by rw [upd_ne npD]; exact hp1⟩ ?_ ?_ ?_
  · rintro i ys σ H5 hi ⟨_, _, t5, h5, h6, _⟩
    exact ⟨SqL.of h5, h6⟩
  · rintro i x ys σ H5 hx ⟨⟨o, rfl⟩, ⟨ns, rfl, sb, no⟩, t5, h5, h6, h7⟩
    rw [List.getElem?_map] at hx
    obtain ⟨n, en, rfl⟩ := Option.map_eq_some_iff.mp hx
    have hi : i < 4 := (List.getElem?_eq_some_iff.mp en).1
    have tm := take_more en
    have skip : ∀ {H6 : Hp} {o' : Option V}, Stp l (r + (4 - (i + 1))) (upd H L (.lst (STRK.map V.int))) H6 → H6 L = some (.lst (STRK.map V.int)) → H6 D = some (.lst (ns.map V.int)) → H6 p = some (.lst (tk.map V.int)) →
        (∃ o, ([o', some (.ref p), some (.ref l)] : L2.St) = [o, some (.ref p), some (.ref l)]) ∧ (∃ ms : List Int, ns.map V.int = ms.map V.int ∧ ms.Sublist (STRK.take (i + 1)) ∧ ∀ u ∈ ms, u ∉ tk) ∧ Stp l (r + (4 - (i + 1))) (upd H L (.lst (STRK.map V.int))) H6 ∧ H6 L = some (.lst (STRK.map V.int)) ∧ H6 D = some (.lst (ns.map V.int)) ∧ H6 p = some (.lst (tk.map V.int)) :=
      fun a b c d => ⟨⟨_, rfl⟩, ⟨ns, rfl, by rw [tm]; exact sb.trans (List.sublist_append_left _ _), no⟩, a, b, c, d⟩
    refine goOn ?_
    refine ⟨_, rfl, _, rfl, p, _, rfl, .inl (SqL.of h7), rfl, flat_ints tk, _, rfl, ?_⟩
    show if (!inV (.int n) (tk.map V.int)) = true then _ else _
    rw [inV_int]
    refine ite2 (fun cm => ?_) (fun cm => ?_)
    · have cm' : n ∉ tk := by simpa using cm
      refine ⟨_, rfl, l, 4, r + (4 - (i + 1)), rfl, t5.feed.mono (by omega), by decide, by decide, fun z H6 z0 z1 t6 => ?_⟩
      have t56 := t5.trans t6
      have h6D := t6.keep _ _ nD h6
      have h6L := t6.keep _ _ nL h5
      have h6p := t6.keep _ _ np h7
      refine ⟨rfl, _, rfl, ?_⟩
      refine ite2 (fun c => ?_) (fun c => ?_)
      · refine ⟨_, rfl, h6D, ?_, ⟨_, rfl⟩, ⟨ns ++ [n], by rw [List.map_append]; rfl, ?_, ?_⟩, t56.put hD (f1.far hD), by rw [upd_ne nLD]; exact h6L, upd_same, by rw [upd_ne npD]; exact h6p⟩
        · have := sb.length_le
          rw [List.length_take] at this
          rw [List.length_map]; exact Nat.lt_of_le_of_lt (show ns.length ≤ 8 by omega) (by decide)
        · rw [tm]; exact sb.append (List.Sublist.refl _)
        · intro u mu
          rcases List.mem_append.mp mu with mu | mu
          · exact no u mu
          · rw [List.mem_singleton.mp mu]; exact cm'
      · exact skip t56 h6L h6D h6p
    · exact skip (t5.mono (by omega)) h5 h6 h7
  · rintro ys σ H5 ⟨_, ⟨ns, rfl, sb, no⟩, t5, h5, h6, h7⟩
    refine ⟨D, _, rfl, .inl ⟨SqL.of h6, fun e he => ?_⟩⟩
    exact q e ns _ (SqT.of upd_same) sb no (((Stp.refl fe).same s1).trans ((t5.lay he).mono (by omega)))
end
end K19
namespace K19
open PySem PySem.Spec PyProof.Rows L2 K01
abbrev s_law_plain_shape : Stmt := top 30
abbrev N_law_plain_shape : List Str := ["_law_feed_here", "_law_names_here", "_law_way", "_law_low", "_law_word"]
theorem sc_law_plain_shape : FnScope N_law_plain_shape ["_law_feed_here", "_law_names_here"] (defScope s_law_plain_shape) := ⟨rfl, rfl, rfl, by decide +kernel, rfl, by decide +kernel, by decide +kernel⟩
def PlainS (t : Th) : Prop := (∃ lo hi : Int, t = .tup [.str "whole", .int lo, .int hi] ∧ -ALL ≤ lo ∧ lo ≤ hi ∧ hi ≤ ALL) ∨ t = .tup [.str "truth"] ∨ (∃ n : Int, t = .tup [.str "text", .int n] ∧ 0 ≤ n ∧ n ≤ 200) ∨
  ∃ (b : Bool) (x : Str) (n : Int), t = .tup [.str (if b = true then "row" else "map"), .str x, .int n] ∧ x ∈ WORDS ∧ 0 ≤ n ∧ n ≤ 20
def LOWS : List Int := [0, -3, 1, 5, -((10 : Int) ^ (18 : Int).toNat), 0]
def ADDS : List Int := [1, 0, 7, 300, (10 : Int) ^ (18 : Int).toNat]
theorem lows_ok : ∀ x ∈ LOWS, -ALL ≤ x ∧ x ≤ 5 := by decide
theorem adds_ok : ∀ x ∈ ADDS, 0 ≤ x ∧ x ≤ ALL := by decide
theorem e18 : (10 : Int) ^ (18 : Int).toNat = ALL := by decide
theorem words_name : ∀ x ∈ WORDS, nameTh (.str x) = true := by decide +kernel
theorem words_gd : ∀ x ∈ WORDS, gdT (.str x) := fun x m => by
  have h : ∀ x ∈ WORDS, (x.cps.toList.all fun c => decide (gdC c)) = true ∧ x.length ≤ 1000 := by decide +kernel
  exact lit_gd (h x m).1 (h x m).2
theorem plain_shape {t : Th} (h : PlainS t) : shapeTh t = true := by
  rcases h with ⟨lo, hi, rfl, h1, h2, h3⟩ | rfl | ⟨n, rfl, h1, h2⟩ | ⟨b, x, n, rfl, mx, h1, h2⟩
  · rw [shape_w]
    show (decide (-ALL ≤ lo) && decide (lo ≤ ALL) && (decide (-ALL ≤ hi) && decide (hi ≤ ALL)) && decide (lo ≤ hi)) = true
    rw [decide_eq_true h1, decide_eq_true (show lo ≤ ALL by omega), decide_eq_true (show -ALL ≤ hi by omega), decide_eq_true h3, decide_eq_true h2]; rfl
  · rw [shape_u]; rfl
  · rw [shape_t]
    show (decide (0 ≤ n) && decide (n ≤ 200)) = true
    rw [decide_eq_true h1, decide_eq_true h2]; rfl
  · have e : shapeTh (.tup [.str (if b = true then "row" else "map"), .str x, .int n]) = rowS [.str x, .int n] := by
      cases b
      · exact shape_m
      · exact shape_r
    rw [e]
    show (nameTh (.str x) && (decide (0 ≤ n) && decide (n ≤ 20))) = true
    rw [words_name x mx, decide_eq_true h1, decide_eq_true h2]; rfl
theorem plain_fine {t : Th} (h : PlainS t) : gdT t ∧ dpT t ≤ 1 ∧ wdT t ≤ 3 := by
  have L : ∀ x ∈ (["whole", "truth", "text", "row", "map"] : List Str), gdT (.str x) := fun x m => by
    have h : ∀ x ∈ (["whole", "truth", "text", "row", "map"] : List Str), (x.cps.toList.all fun c => decide (gdC c)) = true ∧ x.length ≤ 1000 := by decide +kernel
    exact lit_gd (h x m).1 (h x m).2
  rcases h with ⟨lo, hi, rfl, _⟩ | rfl | ⟨n, rfl, _⟩ | ⟨b, x, n, rfl, mx, _⟩
  · exact ⟨⟨L _ (by simp), trivial, trivial, trivial⟩, by show 1 ≤ 1; decide, by show 3 ≤ 3; decide⟩
  · exact ⟨⟨L _ (by simp), trivial⟩, by show 1 ≤ 1; decide, by show 1 ≤ 3; decide⟩
  · exact ⟨⟨L _ (by simp), trivial, trivial⟩, by show 1 ≤ 1; decide, by show 2 ≤ 3; decide⟩
  · refine ⟨⟨?_, words_gd x mx, trivial, trivial⟩, by show 1 ≤ 1; decide, by show 3 ≤ 3; decide⟩
    cases b
    · exact L _ (by simp)
    · exact L _ (by simp)
def spPlainS (K : PySem.W.Frag) : Sp := fun vs H Q _ => ∃ (l p : Addr) (ss : List Str) (r : Nat), vs = [.ref l, .ref p] ∧ H p = some (.lst (ss.map V.str)) ∧ (∀ x ∈ ss, x ∈ WORDS) ∧ 1 ≤ ss.length ∧ ss.length ≤ 12 ∧ Fd (r + 3) H l ∧ ∀ v t H', IsTh K H' t v → PlainS t → Stp l r H H' → Q v H'
theorem strs_ne {H : Hp} {l p : Addr} {r : Nat} {ss : List Str} (fe : Fd r H l) (hp : H p = some (.lst (ss.map V.str))) : p ≠ l := fun e => by
  obtain ⟨a, ks, b, c, d, e1, _⟩ := fe
  rw [e, e1] at hp
  injection hp with hp
  injection hp with hp
  cases ss with
  | nil => cases hp
  | cons n ns => injection hp with h3 _; cases h3
section
variable {P : Program} {w : World} {K : PySem.W.Frag} {mg : Str → Option Value} {base : Heap} {f : Addr} {fd : FuncData}
theorem ok_plain_shape (F : Fun K "_law_plain_shape" "_law_plain_shape" s_law_plain_shape f fd) (m : Bn mg) (g_law_draw : Fn P w K mg base 1 "_law_draw" ["_law_feed_here", "_law_many_here"] spDraw) : FnOk P w K mg base CX0 2 f fd ["_law_feed_here", "_law_names_here"] (spPlainS K) := by
  refine F.ok sc_law_plain_shape (fun vs H Q E h => ?_) (fun cdv A outer s H vs Q E hr h => ?_)
  · obtain ⟨l, p, ss, r, rfl, _⟩ := h
    rfl
  obtain ⟨l, p, ss, r, rfl, hp, hw, l1, l2, fe, q⟩ := h
  have mmin := m.min
  refine ⟨_, (@pss_cons _ _ _ _ _ (@ps_setI _ 2 _ _ _ _ _ sc_law_plain_shape.nd rfl (by first | exact Or.inl rfl | exact Or.inr rfl) (@pe_callF _ _ _ _ _ _ _ _ _ _ g_law_draw (hr.mono (by omega)) rfl (@pa_cons _ _ _ _ _ (pv 0) (@pa_cons _ _ _ _ _ pe_int pa_nil rfl) rfl) (by decide) rfl rfl) rfl (by first | exact .inl rfl | exact .inr rfl)) (@pss_cons _ _ _ _ _ (@ps_if _ _ _ _ _ _ _ _ (@pt_cmpR _ _ _ _ _ _ _ _ op_lt (pv 2) pe_int (nomark _)) (@pss_cons _ _ _ _ _ (@ps_setI _ 3 _ _ _ _ _ sc_law_plain_shape.nd rfl (by first | exact Or.inl rfl | exact Or.inr rfl) (@pe_ix _ _ _ _ _ _ _ ix_list (@pe_lst _ _ _ _ (@pa_cons _ _ _ _ _ pe_int (@pa_cons _ _ _ _ _ (@pe_un _ _ _ _ _ _ un_neg pe_int) (@pa_cons _ _ _ _ _ pe_int (@pa_cons _ _ _ _ _ pe_int (@pa_cons _ _ _ _ _ (@pe_un _ _ _ _ _ _ un_neg (@pe_op _ _ _ _ _ _ _ _ op_pow pe_int pe_int)) (@pa_cons _ _ _ _ _ pe_int pa_nil rfl) rfl) rfl) rfl) rfl) rfl)) (@pe_callF _ _ _ _ _ _ _ _ _ _ g_law_draw (hr.mono (by omega)) rfl (@pa_cons _ _ _ _ _ (pv 0) (@pa_cons _ _ _ _ _ pe_int pa_nil rfl) rfl) (by decide) rfl rfl) (fun _ _ =>  rfl)) rfl (by first | exact .inl rfl | exact .inr rfl)) (@pss_one _ _ _ (@ps_ret _ _ _ _ (@pe_tup _ _ _ _ _ (@pa_cons _ _ _ _ _ pe_str (@pa_cons _ _ _ _ _ (pv 3) (@pa_cons _ _ _ _ _ (@pe_callB _ _ _ _ _ _ _ _ _ (call_min2 rfl) rfl mmin b_min (@pa_cons _ _ _ _ _ (@pe_op _ _ _ _ _ _ _ _ op_pow pe_int pe_int) (@pa_cons _ _ _ _ _ (@pe_op _ _ _ _ _ _ _ _ op_add (pv 3) (@pe_ix _ _ _ _ _ _ _ ix_list (@pe_lst _ _ _ _ (@pa_cons _ _ _ _ _ pe_int (@pa_cons _ _ _ _ _ pe_int (@pa_cons _ _ _ _ _ pe_int (@pa_cons _ _ _ _ _ pe_int (@pa_cons _ _ _ _ _ (@pe_op _ _ _ _ _ _ _ _ op_pow pe_int pe_int) pa_nil rfl) rfl) rfl) rfl) rfl)) (@pe_callF _ _ _ _ _ _ _ _ _ _ g_law_draw (hr.mono (by omega)) rfl (@pa_cons _ _ _ _ _ (pv 0) (@pa_cons _ _ _ _ _ pe_int pa_nil rfl) rfl) (by decide) rfl rfl) (fun _ _ =>  rfl))) pa_nil rfl) rfl) (by decide) (by decide) rfl rfl) pa_nil rfl) rfl) rfl))))) pss_nil) (@pss_cons _ _ _ _ _ (@ps_if _ _ _ _ _ _ _ _ (@pt_cmpR _ _ _ _ _ _ _ _ op_eq (pv 2) pe_int (nomark _)) (@pss_one _ _ _ (@ps_ret _ _ _ _ (@pe_tup _ _ _ _ _ (@pa_cons _ _ _ _ _ pe_str pa_nil rfl)))) pss_nil) (@pss_cons _ _ _ _ _ (@ps_if _ _ _ _ _ _ _ _ (@pt_cmpR _ _ _ _ _ _ _ _ op_lt (pv 2) pe_int (nomark _)) (@pss_one _ _ _ (@ps_ret _ _ _ _ (@pe_tup _ _ _ _ _ (@pa_cons _ _ _ _ _ pe_str (@pa_cons _ _ _ _ _ (@pe_ix _ _ _ _ _ _ _ ix_list (@pe_lst _ _ _ _ (@pa_ints _ _ [0, 1, 3, 5, 200] rfl)) (@pe_callF _ _ _ _ _ _ _ _ _ _ g_law_draw (hr.mono (by omega)) rfl (@pa_cons _ _ _ _ _ (pv 0) (@pa_cons _ _ _ _ _ pe_int pa_nil rfl) rfl) (by decide) rfl rfl) (fun _ _ =>  rfl)) pa_nil rfl) rfl)))) pss_nil) (@pss_cons _ _ _ _ _ (@ps_setI _ 4 _ _ _ _ _ sc_law_plain_shape.nd rfl (by first | exact Or.inl rfl | exact Or.inr rfl) (@pe_ix _ _ _ _ _ _ _ ix_list (@pe_lst _ _ _ _ (@pa_cons _ _ _ _ _ pe_str (@pa_cons _ _ _ _ _ pe_str (@pa_cons _ _ _ _ _ pe_str pa_nil rfl) rfl) rfl)) (@pe_op _ _ _ _ _ _ _ _ op_sub (pv 2) pe_int) (fun _ _ =>  rfl)) rfl (by first | exact .inl rfl | exact .inr rfl)) (@pss_one _ _ _ (@ps_ret _ _ _ _ (@pe_tup _ _ _ _ _ (@pa_cons _ _ _ _ _ (pv 4) (@pa_cons _ _ _ _ _ (@pe_ix _ _ _ _ _ _ _ ix_list (pv 1) (@pe_callF _ _ _ _ _ _ _ _ _ _ g_law_draw (hr.mono (by omega)) rfl (@pa_cons _ _ _ _ _ (pv 0) (@pa_cons _ _ _ _ _ (@pe_callB _ _ _ _ _ _ _ _ _ call_len_seq rfl m.len b_len (@pa_cons _ _ _ _ _ (pv 1) pa_nil rfl) (by decide) (by decide) rfl rfl) pa_nil rfl) rfl) (by decide) rfl rfl) (fun _ _ =>  rfl)) (@pa_cons _ _ _ _ _ (@pe_ix _ _ _ _ _ _ _ ix_list (@pe_lst _ _ _ _ (@pa_ints _ _ [0, 1, 2, 3, 20] rfl)) (@pe_callF _ _ _ _ _ _ _ _ _ _ g_law_draw (hr.mono (by omega)) rfl (@pa_cons _ _ _ _ _ (pv 0) (@pa_cons _ _ _ _ _ pe_int pa_nil rfl) rfl) (by decide) rfl rfl) (fun _ _ =>  rfl)) pa_nil rfl) rfl) rfl))))))))), ?_⟩
  have pw : CPow 10 18 := ⟨by decide, by decide, by decide⟩
  have np := strs_ne fe hp
  refine ⟨_, rfl, l, 8, r + 2, rfl, fe, by decide, by decide, fun x H1 x0 x1 t1 => ?_⟩
  refine ⟨_, rfl, _, _, rfl, rfl, _, rfl, ?_⟩
  refine ite2 (fun c1 => ?_) (fun c1 => ?_)
  · refine ⟨_, rfl, _, _, rfl, rfl, pw, _, rfl, (by show 6 ≤ sizeLine; decide), fun L hL => ?_⟩
    have s2 := Same.lay (o := .lst (LOWS.map V.int)) hL
    have t2 := t1.same s2
    refine ⟨_, rfl, l, 6, r + 1, rfl, t2.feed, by decide, by decide, fun y H3 y0 y1 t3 => ?_⟩
    obtain ⟨lo, mlo, elo⟩ := pickI LOWS y0 y1
    have t03 := t2.trans t3
    refine ⟨L, _, _, _, rfl, rfl, SqL.of (t3.keep _ _ (t1.feed.ne hL) upd_same), elo, ?_⟩
    refine ⟨_, rfl, _, _, rfl, rfl, pw, _, rfl, _, _, rfl, rfl, pw, (by show 5 ≤ sizeLine; decide), fun L4 h4 => ?_⟩
    have s4 := Same.lay (o := .lst (ADDS.map V.int)) h4
    have t04 := t03.same s4
    refine ⟨_, rfl, l, 5, r, rfl, t04.feed, by decide, by decide, fun z H5 z0 z1 t5 => ?_⟩
    obtain ⟨ad, mad, ead⟩ := pickI ADDS z0 z1
    have t05 := t04.trans t5
    refine ⟨L4, _, _, _, rfl, rfl, SqL.of (t5.keep _ _ (t03.feed.ne h4) upd_same), ead, _, _, rfl, rfl, _, _, rfl, (by show 3 ≤ sizeLine; decide), fun e he => ?_⟩
    have b1 := lows_ok lo mlo
    have b2 := adds_ok ad mad
    refine q _ (.tup [.str "whole", .int lo, .int _]) _ ⟨e, _, rfl, SqT.of upd_same, _, _, rfl, rfl, _, _, rfl, rfl, _, _, rfl, rfl, rfl⟩ (.inl ⟨lo, _, rfl, b1.1, ?_, ?_⟩) ((t05.lay he).mono (by omega))
    · have a1 : (1000000000000000000 : Int) = ALL := rfl
      rw [e18]; split <;> omega
    · rw [e18]; split <;> omega
  · refine ⟨_, rfl, rfl, _, rfl, ?_⟩
    refine ite2 (fun c2 => ?_) (fun c2 => ?_)
    · refine ⟨(by show 1 ≤ sizeLine; decide), fun e he => ?_⟩
      exact q _ (.tup [.str "truth"]) _ ⟨e, _, rfl, SqT.of upd_same, _, _, rfl, rfl, rfl⟩ (.inr (.inl rfl)) ((t1.lay he).mono (by omega))
    · refine ⟨_, rfl, _, _, rfl, rfl, _, rfl, ?_⟩
      refine ite2 (fun c3 => ?_) (fun c3 => ?_)
      · refine ⟨(by show 5 ≤ sizeLine; decide), fun L hL => ?_⟩
        have s2 := Same.lay (o := .lst ([0, 1, 3, 5, 200].map V.int)) hL
        have t2 := t1.same s2
        refine ⟨_, rfl, l, 5, r + 1, rfl, t2.feed, by decide, by decide, fun y H3 y0 y1 t3 => ?_⟩
        obtain ⟨n, mn, en⟩ := pickI [0, 1, 3, 5, 200] y0 y1
        refine ⟨L, _, _, _, rfl, rfl, SqL.of (t3.keep _ _ (t1.feed.ne hL) upd_same), en, (by show 2 ≤ sizeLine; decide), fun e he => ?_⟩
        have bn : 0 ≤ n ∧ n ≤ 200 := (by decide : ∀ x ∈ ([0, 1, 3, 5, 200] : List Int), 0 ≤ x ∧ x ≤ 200) n mn
        exact q _ (.tup [.str "text", .int n]) _ ⟨e, _, rfl, SqT.of upd_same, _, _, rfl, rfl, _, _, rfl, rfl, rfl⟩ (.inr (.inr (.inl ⟨n, rfl, bn.1, bn.2⟩))) (((t2.trans t3).lay he).mono (by omega))
      · refine ⟨(by show 3 ≤ sizeLine; decide), fun L hL => ?_⟩
        have s2 := Same.lay (o := .lst ((["row", "map", "row"] : List Str).map V.str)) hL
        have t2 := t1.same s2
        have c3' : ¬ x < 5 := fun z => c3 (decide_eq_true z)
        obtain ⟨wd, mw, ew⟩ := pickS ["row", "map", "row"] (r := x - 5) (by omega) (by show x - 5 < 3; omega)
        obtain ⟨b, rfl⟩ : ∃ b : Bool, wd = (if b = true then ("row" : Str) else ("map" : Str)) := by
          simp only [List.mem_cons, List.not_mem_nil, or_false] at mw
          rcases mw with rfl | rfl | rfl
          · exact ⟨true, rfl⟩
          · exact ⟨false, rfl⟩
          · exact ⟨true, rfl⟩
        refine ⟨_, rfl, _, _, rfl, rfl, L, _, _, _, rfl, rfl, SqL.of upd_same, ew, ?_⟩
        have hp2 := s2 _ _ (t1.keep _ _ np hp)
        refine ⟨_, rfl, _, rfl, _, rfl, _, rfl, p, _, rfl, .inl (SqL.of hp2), l, _, r + 1, rfl, t2.feed, ?_, ?_, fun y H3 y0 y1 t3 => ?_⟩
        · rw [List.length_map]; omega
        · rw [List.length_map]; omega
        obtain ⟨nm, mn, en⟩ := pickS ss y0 (by rw [List.length_map] at y1; exact y1)
        have hp3 := t3.keep _ _ np hp2
        have t03 := t2.trans t3
        refine ⟨p, _, _, _, rfl, rfl, SqL.of hp3, en, (by show 5 ≤ sizeLine; decide), fun L4 h4 => ?_⟩
        have s4 := Same.lay (o := .lst ([0, 1, 2, 3, 20].map V.int)) h4
        have t04 := t03.same s4
        refine ⟨_, rfl, l, 5, r, rfl, t04.feed, by decide, by decide, fun z H5 z0 z1 t5 => ?_⟩
        obtain ⟨n, mn', en'⟩ := pickI [0, 1, 2, 3, 20] z0 z1
        refine ⟨L4, _, _, _, rfl, rfl, SqL.of (t5.keep _ _ (t03.feed.ne h4) upd_same), en', (by show 3 ≤ sizeLine; decide), fun e he => ?_⟩
        have bn : 0 ≤ n ∧ n ≤ 20 := (by decide : ∀ x ∈ ([0, 1, 2, 3, 20] : List Int), 0 ≤ x ∧ x ≤ 20) n mn'
        exact q _ (.tup [.str _, .str nm, .int n]) _ ⟨e, _, rfl, SqT.of upd_same, _, _, rfl, rfl, _, _, rfl, rfl, _, _, rfl, rfl, rfl⟩ (.inr (.inr (.inr ⟨b, nm, n, rfl, hw nm mn, bn.1, bn.2⟩))) ((t04.trans t5).lay he)
end
end K19
namespace K19
open PySem PySem.Spec PyProof.Rows L2 K01
abbrev s_law_plain_value : Stmt := top 31
abbrev N_law_plain_value : List Str := ["_law_feed_here", "_law_shape"]
theorem sc_law_plain_value : FnScope N_law_plain_value ["_law_feed_here", "_law_shape"] (defScope s_law_plain_value) := ⟨rfl, rfl, rfl, by decide +kernel, rfl, by decide +kernel, by decide +kernel⟩
def TXTS : List Str := ["", "a", " b-c", "must 1", repS "~" (200 : Int).toNat]
theorem txts_gd : ∀ x ∈ TXTS, gdT (.str x) := fun x m => by
  have h : ∀ x ∈ TXTS, (x.cps.toList.all fun c => decide (gdC c)) = true ∧ x.length ≤ 1000 := by decide +kernel
  exact lit_gd (h x m).1 (h x m).2
mutual
def nqT : Th → Prop
  | .tup ts => nqTs ts
  | .opq => False
  | _ => True
def nqTs : List Th → Prop
  | [] => True
  | t :: ts => nqT t ∧ nqTs ts
end
theorem nqTs_all : ∀ {ts : List Th}, (∀ t ∈ ts, nqT t) → nqTs ts
  | [], _ => trivial
  | t :: ts, h => ⟨h t List.mem_cons_self, nqTs_all fun x m => h x (List.mem_cons_of_mem _ m)⟩
mutual
theorem isTh_nq {K : PySem.W.Frag} {H H' : Hp} (u : Up K H H') : ∀ (t : Th) (v : V), nqT t → IsTh K H t v → IsTh K H' t v
  | .non, _, _, h => h
  | .bl _, _, _, h => h
  | .int _, _, _, h => h
  | .str _, _, _, h => h
  | .tup ts, v, n, h => by
    obtain ⟨a, vs, e, q, r⟩ := h
    exact ⟨a, vs, e, u a vs q, areTh_nq u ts vs n r⟩
  | .opq, v, n, h => n.elim
theorem areTh_nq {K : PySem.W.Frag} {H H' : Hp} (u : Up K H H') : ∀ (ts : List Th) (vs : List V), nqTs ts → AreTh K H ts vs → AreTh K H' ts vs
  | [], _, _, h => h
  | t :: ts, vs, n, h => by
    obtain ⟨v, r, e, q, w⟩ := h
    exact ⟨v, r, e, isTh_nq u t v n.1 q, areTh_nq u ts r n.2 w⟩
end
structure Leaf (u : Th) : Prop where
  gd : gdT u
  dp : dpT u ≤ 1
  wd : wdT u = 0
  nq : nqT u
def spPlainV (K : PySem.W.Frag) : Sp := fun vs H Q _ => ∃ (l : Addr) (v : V) (t : Th) (r : Nat), vs = [.ref l, v] ∧ IsTh K H t v ∧ PlainS t ∧ Fd (r + 1) H l ∧ ∀ x u H', IsTh K H' u x → Leaf u → Stp l r H H' → Q x H'
section
variable {P : Program} {w : World} {K : PySem.W.Frag} {mg : Str → Option Value} {base : Heap} {f : Addr} {fd : FuncData}
theorem ok_plain_value (F : Fun K "_law_plain_value" "_law_plain_value" s_law_plain_value f fd) (m : Bn mg) (g_law_draw : Fn P w K mg base 1 "_law_draw" ["_law_feed_here", "_law_many_here"] spDraw) : FnOk P w K mg base CX0 2 f fd ["_law_feed_here", "_law_shape"] (spPlainV K) := by
  refine F.ok sc_law_plain_value (fun vs H Q E h => ?_) (fun cdv A outer s H vs Q E hr h => ?_)
  · obtain ⟨l, v, t, r, rfl, _⟩ := h
    rfl
  obtain ⟨l, v, t, r, rfl, ht, pl, fe, q⟩ := h
  have mmin := m.min
  refine ⟨_, (@pss_cons _ _ _ _ _ (@ps_if _ _ _ _ _ _ _ _ (@pt_cmpR _ _ _ _ _ _ _ _ op_eq (@pe_ix _ _ _ _ _ _ _ ix_tup (pv 1) pe_int (fun _ _ =>  rfl)) pe_str (nomark _)) (@pss_one _ _ _ (@ps_ret _ _ _ _ (@pe_ix _ _ _ _ _ _ _ ix_list (@pe_lst _ _ _ _ (@pa_cons _ _ _ _ _ (@pe_ix _ _ _ _ _ _ _ ix_tup (pv 1) pe_int (fun _ _ =>  rfl)) (@pa_cons _ _ _ _ _ (@pe_ix _ _ _ _ _ _ _ ix_tup (pv 1) pe_int (fun _ _ =>  rfl)) (@pa_cons _ _ _ _ _ (@pe_callB _ _ _ _ _ _ _ _ _ (call_min2 rfl) rfl mmin b_min (@pa_cons _ _ _ _ _ (@pe_ix _ _ _ _ _ _ _ ix_tup (pv 1) pe_int (fun _ _ =>  rfl)) (@pa_cons _ _ _ _ _ (@pe_op _ _ _ _ _ _ _ _ op_add (@pe_ix _ _ _ _ _ _ _ ix_tup (pv 1) pe_int (fun _ _ =>  rfl)) pe_int) pa_nil rfl) rfl) (by decide) (by decide) rfl rfl) pa_nil rfl) rfl) rfl)) (@pe_callF _ _ _ _ _ _ _ _ _ _ g_law_draw (hr.mono (by omega)) rfl (@pa_cons _ _ _ _ _ (pv 0) (@pa_cons _ _ _ _ _ pe_int pa_nil rfl) rfl) (by decide) rfl rfl) (fun _ _ =>  rfl)))) pss_nil) (@pss_cons _ _ _ _ _ (@ps_if _ _ _ _ _ _ _ _ (@pt_cmpR _ _ _ _ _ _ _ _ op_eq (@pe_ix _ _ _ _ _ _ _ ix_tup (pv 1) pe_int (fun _ _ =>  rfl)) pe_str (nomark _)) (@pss_one _ _ _ (@ps_ret _ _ _ _ (@pe_cmpR _ _ _ _ _ _ _ _ op_eq (@pe_callF _ _ _ _ _ _ _ _ _ _ g_law_draw (hr.mono (by omega)) rfl (@pa_cons _ _ _ _ _ (pv 0) (@pa_cons _ _ _ _ _ pe_int pa_nil rfl) rfl) (by decide) rfl rfl) pe_int (nomark _)))) pss_nil) (@pss_cons _ _ _ _ _ (@ps_if _ _ _ _ _ _ _ _ (@pt_cmpR _ _ _ _ _ _ _ _ op_eq (@pe_ix _ _ _ _ _ _ _ ix_tup (pv 1) pe_int (fun _ _ =>  rfl)) pe_str (nomark _)) (@pss_one _ _ _ (@ps_ret _ _ _ _ (@pe_slice _ _ _ _ _ _ _ _ _ _ sl_strG (@pe_ix _ _ _ _ _ _ _ ix_list (@pe_lst _ _ _ _ (@pa_cons _ _ _ _ _ pe_str (@pa_cons _ _ _ _ _ pe_str (@pa_cons _ _ _ _ _ pe_str (@pa_cons _ _ _ _ _ pe_str (@pa_cons _ _ _ _ _ (@pe_op _ _ _ _ _ _ _ _ op_repS pe_str pe_int) pa_nil rfl) rfl) rfl) rfl) rfl)) (@pe_callF _ _ _ _ _ _ _ _ _ _ g_law_draw (hr.mono (by omega)) rfl (@pa_cons _ _ _ _ _ (pv 0) (@pa_cons _ _ _ _ _ pe_int pa_nil rfl) rfl) (by decide) rfl rfl) (fun _ _ =>  rfl)) (@po_none _) (@po_some _ _ _ (@pe_ix _ _ _ _ _ _ _ ix_tup (pv 1) pe_int (fun _ _ =>  rfl)))))) pss_nil) (@pss_one _ _ _ (@ps_ret _ _ _ _ (@pe_tup _ _ _ _ _ pa_nil)))))), ?_⟩
  rcases pl with ⟨lo, hi, rfl, _⟩ | rfl | ⟨n, rfl, n0, n1⟩ | ⟨b, x, n, rfl, _⟩
  · obtain ⟨a, ws, rfl, ha, at'⟩ := ht
    obtain ⟨w1, w2, w3, rfl, i1, i2, i3⟩ := are3 at'
    cases (show w1 = .str "whole" from i1)
    cases (show w2 = .int lo from i2)
    cases (show w3 = .int hi from i3)
    refine ⟨_, rfl, a, _, _, _, rfl, rfl, ha, at0, rfl, _, rfl, iteY (by decide +kernel) ?_⟩
    refine ⟨_, rfl, a, _, _, _, rfl, rfl, ha, at1, _, rfl, a, _, _, _, rfl, rfl, ha, at2, _, rfl, a, _, _, _, rfl, rfl, ha, at2, _, rfl, a, _, _, _, rfl, rfl, ha, at1, _, _, rfl, rfl, _, _, rfl, (by show 3 ≤ sizeLine; decide), fun L hL => ?_⟩
    have t1 := (Stp.refl fe).lay (o := .lst ([lo, hi, if lo + 1 < hi then lo + 1 else hi].map V.int)) hL
    refine ⟨_, rfl, l, 3, r, rfl, t1.feed, by decide, by decide, fun y H3 y0 y1 t3 => ?_⟩
    obtain ⟨k, mk, ek⟩ := pickI [lo, hi, if lo + 1 < hi then lo + 1 else hi] y0 y1
    refine ⟨L, _, _, _, rfl, rfl, SqL.of (t3.keep _ _ (fe.ne hL) upd_same), ek, ?_⟩
    exact q _ (.int k) H3 rfl ⟨trivial, Nat.zero_le _, rfl, trivial⟩ (t1.trans t3)
  · obtain ⟨a, ws, rfl, ha, at'⟩ := ht
    obtain ⟨w1, rfl, i1⟩ := are1 at'
    cases (show w1 = .str "truth" from i1)
    refine ⟨_, rfl, a, _, _, _, rfl, rfl, ha, at0, rfl, _, rfl, iteN (by decide +kernel) ?_⟩
    refine ⟨_, rfl, a, _, _, _, rfl, rfl, ha, at0, rfl, _, rfl, iteY (by decide +kernel) ?_⟩
    refine ⟨_, rfl, l, 2, r, rfl, fe, by decide, by decide, fun y H3 y0 y1 t3 => ?_⟩
    exact ⟨rfl, q _ (.bl _) H3 rfl ⟨trivial, Nat.zero_le _, rfl, trivial⟩ t3⟩
  · obtain ⟨a, ws, rfl, ha, at'⟩ := ht
    obtain ⟨w1, w2, rfl, i1, i2⟩ := are2 at'
    cases (show w1 = .str "text" from i1)
    cases (show w2 = .int n from i2)
    refine ⟨_, rfl, a, _, _, _, rfl, rfl, ha, at0, rfl, _, rfl, iteN (by decide +kernel) ?_⟩
    refine ⟨_, rfl, a, _, _, _, rfl, rfl, ha, at0, rfl, _, rfl, iteN (by decide +kernel) ?_⟩
    refine ⟨_, rfl, a, _, _, _, rfl, rfl, ha, at0, rfl, _, rfl, iteY (by decide +kernel) ?_⟩
    refine ⟨_, _, rfl, rfl, by decide, by decide, by decide +kernel, by decide +kernel, (by show 5 ≤ sizeLine; decide), fun L hL => ?_⟩
    have t1 := (Stp.refl fe).lay (o := .lst (TXTS.map V.str)) hL
    refine ⟨_, rfl, l, 5, r, rfl, t1.feed, by decide, by decide, fun y H3 y0 y1 t3 => ?_⟩
    obtain ⟨x, mx, ex⟩ := pickS TXTS y0 y1
    have gx := txts_gd x mx
    have t13 := t1.trans t3
    refine ⟨L, _, _, _, rfl, rfl, SqL.of (t3.keep _ _ (fe.ne hL) upd_same), ex, _, rfl, a, _, _, _, rfl, rfl, (t13.up (K := K) fe) _ _ ha, at1, _, rfl, x, rfl, Nat.le_trans gx.2 (by decide), fun z h1 _ h3 => ?_⟩
    exact q _ (.str z) H3 rfl ⟨⟨fun c mc => gx.1 c (h3 c mc), Nat.le_trans h1 gx.2⟩, Nat.zero_le _, rfl, trivial⟩ t13
  · obtain ⟨a, ws, rfl, ha, at'⟩ := ht
    obtain ⟨w1, w2, w3, rfl, i1, i2, i3⟩ := are3 at'
    have e1 : ∀ b : Bool, decide (V.str (if b = true then ("row" : Str) else "map") = V.str "whole") = false ∧ decide (V.str (if b = true then ("row" : Str) else "map") = V.str "truth") = false ∧ decide (V.str (if b = true then ("row" : Str) else "map") = V.str "text") = false := by decide +kernel
    cases (show w1 = .str (if b = true then "row" else "map") from i1)
    refine ⟨_, rfl, a, _, _, _, rfl, rfl, ha, at0, rfl, _, rfl, iteN (e1 b).1 ?_⟩
    refine ⟨_, rfl, a, _, _, _, rfl, rfl, ha, at0, rfl, _, rfl, iteN (e1 b).2.1 ?_⟩
    refine ⟨_, rfl, a, _, _, _, rfl, rfl, ha, at0, rfl, _, rfl, iteN (e1 b).2.2 ?_⟩
    refine ⟨(by show 0 ≤ sizeLine; decide), fun e he => ?_⟩
    exact q _ (.tup []) _ ⟨e, _, rfl, SqT.of upd_same, rfl⟩ ⟨trivial, by decide, rfl, trivial⟩ (((Stp.refl fe).lay he).mono (by omega))
end
end K19
namespace K19
open PySem PySem.Spec PyProof.Rows L2 K01
abbrev s_law_parts : Stmt := top 33
abbrev N_law_parts : List Str := ["_law_feed_here", "_law_names_here", "_law_shapes", "_law_called", "_law_found", "_law_k", "_law_number", "_law_inner", "_law_default"]
theorem sc_law_parts : FnScope N_law_parts ["_law_feed_here", "_law_names_here", "_law_shapes"] (defScope s_law_parts) := ⟨rfl, rfl, rfl, by decide +kernel, rfl, by decide +kernel, by decide +kernel⟩
def FieldF (f : Th) : Prop := ∃ (n : Int) (x y : Str) (d : List Th), f = .tup [.int n, .str x, .str y, .tup d] ∧ n ∈ NUMS ∧ x ∈ WORDS ∧ y ∈ WORDS ∧ (d = [] ∨ ∃ u, d = [u] ∧ Leaf u)
structure PartsOk (fs : List Th) : Prop where
  len : fs.length ≤ 5
  form : ∀ f ∈ fs, FieldF f
  nums : (fs.map fun f => iOf (numTh f)).Sublist NUMS
  names : (fs.map fun f => kOf (namTh f)).Nodup
def DicP (K : PySem.W.Frag) (H : Hp) (d : Addr) : Prop := ∃ kvs : List (Key × V), H d = some (.dK kvs) ∧ ∀ k v, valV kvs k = some v → ∃ t, IsTh K H t v ∧ (PlainS t ∨ ∃ ts, t = .tup (.str "choice" :: ts))
theorem DicP.up {K : PySem.W.Frag} {H H' : Hp} {d : Addr} (h : DicP K H d) (u : UpT K H H') : DicP K H' d := by
  obtain ⟨kvs, e, g⟩ := h
  refine ⟨kvs, u.dct _ _ e, fun k v ev => ?_⟩
  obtain ⟨t, i, c⟩ := g k v ev
  exact ⟨t, IsTh.up u _ _ i, c⟩
def spPartsD (K : PySem.W.Frag) : Sp := fun vs H Q _ => ∃ (l p d : Addr) (ss : List Str) (r : Nat), vs = [.ref l, .ref p, .ref d] ∧ H p = some (.lst (ss.map V.str)) ∧ (∀ x ∈ ss, x ∈ WORDS) ∧ 1 ≤ ss.length ∧ ss.length ≤ 12 ∧ DicP K H d ∧ Fd (r + 25) H l ∧ ∀ v fs H', IsTh K H' (.tup fs) v → PartsOk fs → Stp l r H H' → Q v H'
theorem plain_head {t : Th} (h : PlainS t) : ∃ (w0 : Str) (r0 : List Th), t = .tup (.str w0 :: r0) ∧ inV (.str w0) [.str "none", .str "choice"] = false := by
  rcases h with ⟨lo, hi, rfl, _⟩ | rfl | ⟨n, rfl, _⟩ | ⟨b, x, n, rfl, _⟩
  · exact ⟨_, _, rfl, by decide +kernel⟩
  · exact ⟨_, _, rfl, by decide +kernel⟩
  · exact ⟨_, _, rfl, by decide +kernel⟩
  · have e : ∀ b : Bool, inV (.str (if b = true then ("row" : Str) else "map")) [.str "none", .str "choice"] = false := by decide +kernel
    exact ⟨_, _, rfl, e b⟩
structure Kq (K : PySem.W.Frag) (l C N D : Addr) (H : Hp) (cs : List Str) (ns : List Int) (ws : List V) (fs : List Th) (r : Nat) (Ha : Hp) : Prop where
  st : Stp l r H Ha
  c : Ha C = some (.lst (cs.map V.str))
  n : Ha N = some (.lst (ns.map V.int))
  d : Ha D = some (.lst ws)
  a : AreTh K Ha fs ws
theorem Kq.same {K : PySem.W.Frag} {l C N D : Addr} {H : Hp} {cs : List Str} {ns : List Int} {ws : List V} {fs : List Th} {r : Nat} {Ha Hb : Hp} (k : Kq K l C N D H cs ns ws fs r Ha) (s : Same Ha Hb) : Kq K l C N D H cs ns ws fs r Hb :=
  ⟨k.st.same s, s _ _ k.c, s _ _ k.n, s _ _ k.d, AreTh.up s.upT _ _ k.a⟩
theorem Kq.step {K : PySem.W.Frag} {l C N D : Addr} {H : Hp} {cs : List Str} {ns : List Int} {ws : List V} {fs : List Th} {r r' : Nat} {Ha Hb : Hp} (k : Kq K l C N D H cs ns ws fs r Ha) (t : Stp l r' Ha Hb) (c : C ≠ l) (n : N ≠ l) (d : D ≠ l) : Kq K l C N D H cs ns ws fs r' Hb :=
  ⟨k.st.trans t, t.keep _ _ c k.c, t.keep _ _ n k.n, t.keep _ _ d k.d, AreTh.up (t.upT k.st.feed) _ _ k.a⟩
theorem nodup_inr : ∀ {zs : List Str}, zs.Nodup → (zs.map (Sum.inr : Str → Key)).Nodup
  | [], _ => List.nodup_nil
  | z :: zs, h => by
    have h' := List.nodup_cons.mp h
    refine List.nodup_cons.mpr ⟨fun m => ?_, nodup_inr h'.2⟩
    obtain ⟨y, my, e⟩ := List.mem_map.mp m
    cases e
    exact h'.1 my
section
variable {P : Program} {w : World} {K : PySem.W.Frag} {mg : Str → Option Value} {base : Heap} {f : Addr} {fd : FuncData}
theorem ok_partsD (F : Fun K "_law_parts" "_law_parts" s_law_parts f fd) (m : Bn mg) (g_law_draw : Fn P w K mg base 1 "_law_draw" ["_law_feed_here", "_law_many_here"] spDraw) (g_law_names : Fn P w K mg base 2 "_law_names" ["_law_feed_here", "_law_many_here"] spNames)
    (g_law_numbers : Fn P w K mg base 2 "_law_numbers" ["_law_feed_here", "_law_most"] spNumbers) (g_law_plain_value : Fn P w K mg base 2 "_law_plain_value" ["_law_feed_here", "_law_shape"] (spPlainV K)) : FnOk P w K mg base CX0 3 f fd ["_law_feed_here", "_law_names_here", "_law_shapes"] (spPartsD K) := by
  refine F.ok sc_law_parts (fun vs H Q E h => ?_) (fun cdv A outer s H vs Q E hr h => ?_)
  · obtain ⟨l, p, d, ss, r, rfl, _⟩ := h
    rfl
  obtain ⟨l, p, d, ss, r, rfl, hp, hw, l1, l2, dp, fe, q⟩ := h
  refine ⟨_, (@pss_cons _ _ _ _ _ (@ps_setI _ 3 _ _ _ _ _ sc_law_parts.nd rfl (by first | exact Or.inl rfl | exact Or.inr rfl) (@pe_callF _ _ _ _ _ _ _ _ _ _ g_law_names (hr.mono (by omega)) rfl (@pa_cons _ _ _ _ _ (pv 0) (@pa_cons _ _ _ _ _ pe_int pa_nil rfl) rfl) (by decide) rfl rfl) rfl (by first | exact .inl rfl | exact .inr rfl)) (@pss_cons _ _ _ _ _ (@ps_setI _ 4 _ _ _ _ _ sc_law_parts.nd rfl (by first | exact Or.inl rfl | exact Or.inr rfl) (@pe_lst _ _ _ _ pa_nil) rfl (by first | exact .inl rfl | exact .inr rfl)) (@pss_cons _ _ _ _ _ (@ps_for _ _ _ _ _ _ _ _ PassesOwn.never rfl (pi_enumL rfl m.enumerate (@pa_cons _ _ _ _ _ (@pe_callF _ _ _ _ _ _ _ _ _ _ g_law_numbers (hr.mono (by omega)) rfl (@pa_cons _ _ _ _ _ (pv 0) (@pa_cons _ _ _ _ _ pe_int pa_nil rfl) rfl) (by decide) rfl rfl) pa_nil rfl)) (@pg_tup _ _ _ _ _ _ rfl (@pgs_cons _ _ _ _ _ (@pg_nameI _ 5 _ _ sc_law_parts.nd rfl (by first | exact Or.inl rfl | exact Or.inr rfl) (by first | exact .inl rfl | exact .inr rfl)) (@pgs_cons _ _ _ _ _ (@pg_nameI _ 6 _ _ sc_law_parts.nd rfl (by first | exact Or.inl rfl | exact Or.inr rfl) (by first | exact .inl rfl | exact .inr rfl)) pgs_nil (by first | rfl | decide | (intro _; rfl) | exact .inl rfl | exact .inr rfl | assumption)) (by first | rfl | decide | (intro _; rfl) | exact .inl rfl | exact .inr rfl | assumption)) (by first | rfl | decide | (intro _; rfl) | exact .inl rfl | exact .inr rfl | assumption) (by first | rfl | decide | (intro _; rfl) | exact .inl rfl | exact .inr rfl | assumption)) (@pss_cons _ _ _ _ _ (@ps_setI _ 7 _ _ _ _ _ sc_law_parts.nd rfl (by first | exact Or.inl rfl | exact Or.inr rfl) (@pe_ix _ _ _ _ _ _ _ ix_list (pv 1) (@pe_callF _ _ _ _ _ _ _ _ _ _ g_law_draw (hr.mono (by omega)) rfl (@pa_cons _ _ _ _ _ (pv 0) (@pa_cons _ _ _ _ _ (@pe_callB _ _ _ _ _ _ _ _ _ call_len_seq rfl m.len b_len (@pa_cons _ _ _ _ _ (pv 1) pa_nil rfl) (by decide) (by decide) rfl rfl) pa_nil rfl) rfl) (by decide) rfl rfl) (fun _ _ =>  rfl)) rfl (by first | exact .inl rfl | exact .inr rfl)) (@pss_cons _ _ _ _ _ (@ps_setI _ 8 _ _ _ _ _ sc_law_parts.nd rfl (by first | exact Or.inl rfl | exact Or.inr rfl) (@pe_tup _ _ _ _ _ pa_nil) rfl (by first | exact .inl rfl | exact .inr rfl)) (@pss_cons _ _ _ _ _ (@ps_if _ _ _ _ _ _ _ _ (@PW.pt _ _ _ (@pw_and _ _ _ _ _ _ _ (@pt_cmpR _ _ _ _ _ _ _ _ op_notIn_seq (@pe_ix _ _ _ _ _ _ _ ix_tup (@pe_dget2 _ _ _ _ _ _ _ _ _ (hu_of hr) (pv 2) (pv 7) (@pe_tup _ _ _ _ _ (@pa_cons _ _ _ _ _ pe_str pa_nil rfl)) ⟨rfl, rfl, rfl, rfl⟩) pe_int (fun _ _ =>  rfl)) (@pe_tup _ _ _ _ _ (@pa_cons _ _ _ _ _ pe_str (@pa_cons _ _ _ _ _ pe_str pa_nil rfl) rfl)) rfl) (@pw_and1 _ _ _ _ (@pt_cmpR _ _ _ _ _ _ _ _ op_eq (@pe_callF _ _ _ _ _ _ _ _ _ _ g_law_draw (hr.mono (by omega)) rfl (@pa_cons _ _ _ _ _ (pv 0) (@pa_cons _ _ _ _ _ pe_int pa_nil rfl) rfl) (by decide) rfl rfl) pe_int (nomark _))))) (@pss_one _ _ _ (@ps_setI _ 8 _ _ _ _ _ sc_law_parts.nd rfl (by first | exact Or.inl rfl | exact Or.inr rfl) (@pe_tup _ _ _ _ _ (@pa_cons _ _ _ _ _ (@pe_callF _ _ _ _ _ _ _ _ _ _ g_law_plain_value (hr.mono (by omega)) rfl (@pa_cons _ _ _ _ _ (pv 0) (@pa_cons _ _ _ _ _ (@pe_dget _ _ _ _ _ _ (hu_of hr) (pv 2) (pv 7) (fun _ _ =>  rfl)) pa_nil rfl) rfl) (by decide) rfl rfl) pa_nil rfl)) rfl (by first | exact .inl rfl | exact .inr rfl))) pss_nil) (@pss_one _ _ _ (@ps_expr _ _ _ _ (@pe_bm _ _ _ _ _ _ _ _ _ _ _ _ PySem.F.plainAttrs_list PySem.F.slot_list_append PySem.F.type_list_append mt_append (pv 4) (@pa_cons _ _ _ _ _ (@pe_tup _ _ _ _ _ (@pa_cons _ _ _ _ _ (pv 6) (@pa_cons _ _ _ _ _ (@pe_ix _ _ _ _ _ _ _ ix_list (pv 3) (pv 5) (fun _ _ =>  rfl)) (@pa_cons _ _ _ _ _ (pv 7) (@pa_cons _ _ _ _ _ (pv 8) pa_nil rfl) rfl) rfl) rfl)) pa_nil rfl) (by first | rfl | decide | (intro _; rfl) | exact .inl rfl | exact .inr rfl | assumption) (by first | rfl | decide | (intro _; rfl) | exact .inl rfl | exact .inr rfl | assumption) (by first | rfl | decide | (intro _; rfl) | exact .inl rfl | exact .inr rfl | assumption) (by first | rfl | decide | (intro _; rfl) | exact .inl rfl | exact .inr rfl | assumption) (by first | rfl | decide | (intro _; rfl) | exact .inl rfl | exact .inr rfl | assumption)) rfl))))) (by first | rfl | decide | (intro _; rfl) | exact .inl rfl | exact .inr rfl | assumption)) (@pss_one _ _ _ (@ps_ret _ _ _ _ (@pe_callTy _ _ _ _ _ _ _ _ _ call_tuple_of rfl m.tuple b_tuple (@pa_cons _ _ _ _ _ (pv 4) pa_nil rfl) (by first | rfl | decide | (intro _; rfl) | exact .inl rfl | exact .inr rfl | assumption) (by first | rfl | decide | (intro _; rfl) | exact .inl rfl | exact .inr rfl | assumption) (by first | rfl | decide | (intro _; rfl) | exact .inl rfl | exact .inr rfl | assumption) (by first | rfl | decide | (intro _; rfl) | exact .inl rfl | exact .inr rfl | assumption))))))), ?_⟩
  have np := strs_ne fe hp
  refine ⟨_, rfl, l, 8, r + 23, rfl, fe, by decide, fun C cs H1 hC nC okC t1 => ?_⟩
  have nCl : C ≠ l := fe.ne nC
  refine ⟨(by show 0 ≤ sizeLine; decide), fun D hD => ?_⟩
  have t2 := t1.lay (o := .lst []) hD
  have nD : H D = none := t1.free hD
  have nDl : D ≠ l := fe.ne nD
  have hC2 := (Same.lay (o := .lst []) hD) _ _ hC
  have nDC : D ≠ C := fun e => by rw [e, hC] at hD; cases hD
  refine ⟨_, rfl, l, 5, r + 15, rfl, t2.feed.mono (by omega), fun N ns H3 hN nN sbN lnN t3 => ?_⟩
  have t03 := t2.trans t3
  have nNl : N ≠ l := t2.feed.ne nN
  have hC3 := t3.keep _ _ nCl hC2
  have hD3 : H3 D = some (.lst []) := t3.keep _ _ nDl upd_same
  have nDN : D ≠ N := fun e => by rw [← e, upd_same] at nN; cases nN
  have hp3 := t03.keep _ _ np hp
  have npD : p ≠ D := ne_of_none hp nD
  refine ⟨N, _, rfl, SqL.of hN, ?_⟩
  refine for_enumL (xs := ns.map V.int) (fun i σ H5 => (∃ o5 o6 o7 o8, σ = [some (.ref l), some (.ref p), some (.ref d), some (.ref C), some (.ref D), o5, o6, o7, o8]) ∧ Stp l (r + 3 * (5 - i)) H H5 ∧ H5 C = some (.lst (cs.map V.str)) ∧ H5 N = some (.lst (ns.map V.int)) ∧
      ∃ fs ws, H5 D = some (.lst ws) ∧ AreTh K H5 fs ws ∧ (∀ f ∈ fs, FieldF f) ∧ (fs.map fun f => iOf (numTh f)) = ns.take i ∧ (fs.map fun f => kOf (namTh f)) = (cs.take i).map Sum.inr)
    ⟨⟨_, _, _, _, rfl⟩, t03.mono (by omega), hC3, hN, [], [], hD3, rfl, fun f m => absurd m List.not_mem_nil, rfl, rfl⟩ ?_ ?_ ?_
  · rintro i σ H5 hi ⟨_, _, _, h5, _⟩
    exact SqL.of h5
  · rintro i x e σ H5 hx ⟨⟨o5, o6, o7, o8, rfl⟩, t5, h5C, h5N, fs, ws, h5D, af, ff, fn, fm⟩ he
    rw [List.getElem?_map] at hx
    obtain ⟨n, en, rfl⟩ := Option.map_eq_some_iff.mp hx
    have hi : i < ns.length := (List.getElem?_eq_some_iff.mp en).1
    have nN : n ∈ NUMS := sbN.subset (List.mem_of_getElem? en)
    have ic : i < cs.length := by rw [okC.len]; omega
    have ec : cs[i]? = some cs[i] := List.getElem?_eq_getElem ic
    have mC : cs[i] ∈ cs := List.getElem_mem ic
    have eC : atI (cs.map V.str) (i : Int) = some (.str cs[i]) := atI_nat (by rw [List.getElem?_map, ec]; rfl)
    generalize cs[i] = cx at ec mC eC
    have wl : ws.length < sizeLine := by
      have : fs.length = i := by
        have z := congrArg List.length fn
        rw [List.length_map, List.length_take] at z
        omega
      rw [← af.length]
      exact Nat.lt_of_le_of_lt (show fs.length ≤ 8 by omega) (by decide)
    have k5 : Kq K l C N D H cs ns ws fs (r + 3 * (5 - i)) H5 := ⟨t5, h5C, h5N, h5D, af⟩
    have k6 := k5.same (Same.lay (o := .tup [.int i, .int n]) he)
    refine ⟨e, _, rfl, SqT.of upd_same, rfl, _, _, rfl, _, _, rfl, rfl, ?_⟩
    have hp6 := k6.st.keep _ _ np hp
    refine ⟨_, rfl, _, rfl, _, rfl, p, _, rfl, .inl (SqL.of hp6), l, _, r + 3 * (5 - (i + 1)) + 2, rfl, k6.st.feed.mono (by omega), ?_, ?_, fun y H7 y0 y1 t7 => ?_⟩
    · rw [List.length_map]; omega
    · rw [List.length_map]; omega
    obtain ⟨nm, mn, enm⟩ := pickS ss y0 (by rw [List.length_map] at y1; exact y1)
    have k7 := k6.step t7 nCl nNl nDl
    refine ⟨p, _, _, _, rfl, rfl, SqL.of (k7.st.keep _ _ np hp), enm, (by show 0 ≤ sizeLine; decide), fun ed hed => ?_⟩
    have k8 := k7.same (Same.lay (o := .tup []) hed)
    have i8 : IsTh K (upd H7 ed (.tup [])) (.tup []) (.ref ed) := ⟨ed, [], rfl, SqT.of upd_same, rfl⟩
    obtain ⟨kvs, hd8, g8⟩ := dp.up (k8.st.upT fe)
    refine ⟨_, rfl, d, rfl, .inl ⟨_, .inl hd8⟩, _, rfl, (by show 1 ≤ sizeLine; decide), fun e9 h9 => ?_⟩
    have s9 := Same.lay (o := .tup [.str "none"]) h9
    have k9 := k8.same s9
    refine ⟨_, DGet.k (k := .inr nm) (s9 _ _ hd8), ?_⟩
    cases hv : valV kvs (.inr nm) with
    | none =>
      refine ⟨e9, _, _, _, rfl, rfl, SqT.of upd_same, at0, (by show 2 ≤ sizeLine; decide), fun e10 h10 => ?_⟩
      have s10 := Same.lay (o := .tup [.str "none", .str "choice"]) h10
      refine ⟨e10, _, rfl, .inr (SqT.of upd_same), rfl, rfl, _, rfl, iteN (by decide +kernel) (iteF ?_)⟩
      have kT := (k9.same s10)
      obtain ⟨dd, iD, okD⟩ : ∃ dd : List Th, IsTh K _ (.tup dd) (.ref ed) ∧ (dd = [] ∨ ∃ u, dd = [u] ∧ Leaf u) := ⟨[], IsTh.up (s9.trans s10).upT _ _ i8, .inl rfl⟩
      refine ⟨_, rfl, .inl ⟨rfl, _, SqL.of kT.d⟩, _, rfl, _, rfl, _, rfl, C, _, _, _, rfl, rfl, SqL.of kT.c, eC, _, rfl, _, rfl, (by show 4 ≤ sizeLine; decide), fun eT hT => ?_⟩
      have sT := Same.lay (o := .tup [.int n, .str cx, .str nm, .ref ed]) hT
      have kU := kT.same sT
      refine ⟨D, ws, _, rfl, rfl, kU.d, wl, ?_⟩
      have uD : UpT K _ (upd _ D (.lst (ws ++ [.ref eT]))) := upT_set kU.d
      have fT : FieldF (.tup [.int n, .str cx, .str nm, .tup dd]) := ⟨n, cx, nm, dd, rfl, nN, okC.mem cx mC, hw nm mn, okD⟩
      refine ⟨⟨_, _, _, _, rfl⟩, (kU.st.put nD (fe.far nD)).mono (by omega), by rw [upd_ne nDC.symm]; exact kU.c, by rw [upd_ne nDN.symm]; exact kU.n, fs ++ [.tup [.int n, .str cx, .str nm, .tup dd]], _, upd_same, ?_, fun g mg => ?_, ?_, ?_⟩
      · refine AreTh.append (AreTh.up uD _ _ kU.a) (AreTh.one (IsTh.up uD _ _ ⟨eT, _, rfl, SqT.of upd_same, ?_⟩))
        exact ⟨_, _, rfl, rfl, _, _, rfl, rfl, _, _, rfl, rfl, _, _, rfl, IsTh.up sT.upT _ _ iD, rfl⟩
      · rcases List.mem_append.mp mg with mg | mg
        · exact ff g mg
        · rw [List.mem_singleton.mp mg]; exact fT
      · rw [List.map_append, fn, take_more en]; rfl
      · rw [List.map_append, fm, take_more ec, List.map_append]; rfl
    | some v =>
      obtain ⟨t, it, ct⟩ := g8 _ _ hv
      have it9 := IsTh.up s9.upT _ _ it
      rcases ct with pt | ⟨ts, rfl⟩
      · obtain ⟨w0, r0, et, nw⟩ := plain_head pt
        rw [et] at it9
        obtain ⟨pv, vs, rfl, hv9, v0, vr, rfl, i0, _⟩ := it9
        cases (show v0 = .str w0 from i0)
        refine ⟨pv, _, _, _, rfl, rfl, hv9, at0, (by show 2 ≤ sizeLine; decide), fun e10 h10 => ?_⟩
        have s10 := Same.lay (o := .tup [.str "none", .str "choice"]) h10
        have k10 := k9.same s10
        refine ⟨e10, _, rfl, .inr (SqT.of upd_same), rfl, rfl, _, rfl, iteY (by rw [nw]; rfl) ?_⟩
        refine ⟨_, rfl, l, 2, r + 3 * (5 - (i + 1)) + 1, rfl, k10.st.feed.mono (by omega), by decide, by decide, fun z H11 z0 z1 t11 => ?_⟩
        have k11 := k10.step t11 nCl nNl nDl
        refine ⟨rfl, _, rfl, ?_⟩
        refine ite2 (fun cz => ?_) (fun cz => ?_)
        · have u811 : UpT K (upd H7 ed (.tup [])) H11 := (s9.trans s10).upT.trans (t11.upT k10.st.feed)
          refine ⟨_, rfl, _, rfl, _, rfl, d, _, rfl, (show DGet H11 d (kV (.inr nm)) (some (.ref pv)) from hv ▸ DGet.k (k := .inr nm) (u811.dct _ _ hd8)), l, .ref pv, t, r + 3 * (5 - (i + 1)), rfl, IsTh.up u811 _ _ it, pt, k11.st.feed, fun x u H12 ix lu t12 => ?_⟩
          have k12 := k11.step t12 nCl nNl nDl
          refine ⟨(by show 1 ≤ sizeLine; decide), fun ed hed2 => ?_⟩
          have s13 := Same.lay (o := .tup [x]) hed2
          have kT := k12.same s13
          obtain ⟨dd, iD, okD⟩ : ∃ dd : List Th, IsTh K (upd H12 ed (.tup [x])) (.tup dd) (.ref ed) ∧ (dd = [] ∨ ∃ u, dd = [u] ∧ Leaf u) := ⟨[u], ⟨ed, _, rfl, SqT.of upd_same, AreTh.one (IsTh.up s13.upT _ _ ix)⟩, .inr ⟨u, rfl, lu⟩⟩
          refine ⟨_, rfl, .inl ⟨rfl, _, SqL.of kT.d⟩, _, rfl, _, rfl, _, rfl, C, _, _, _, rfl, rfl, SqL.of kT.c, eC, _, rfl, _, rfl, (by show 4 ≤ sizeLine; decide), fun eT hT => ?_⟩
          have sT := Same.lay (o := .tup [.int n, .str cx, .str nm, .ref ed]) hT
          have kU := kT.same sT
          refine ⟨D, ws, _, rfl, rfl, kU.d, wl, ?_⟩
          have uD : UpT K _ (upd _ D (.lst (ws ++ [.ref eT]))) := upT_set kU.d
          have fT : FieldF (.tup [.int n, .str cx, .str nm, .tup dd]) := ⟨n, cx, nm, dd, rfl, nN, okC.mem cx mC, hw nm mn, okD⟩
          refine ⟨⟨_, _, _, _, rfl⟩, (kU.st.put nD (fe.far nD)).mono (by omega), by rw [upd_ne nDC.symm]; exact kU.c, by rw [upd_ne nDN.symm]; exact kU.n, fs ++ [.tup [.int n, .str cx, .str nm, .tup dd]], _, upd_same, ?_, fun g mg => ?_, ?_, ?_⟩
          · refine AreTh.append (AreTh.up uD _ _ kU.a) (AreTh.one (IsTh.up uD _ _ ⟨eT, _, rfl, SqT.of upd_same, ?_⟩))
            exact ⟨_, _, rfl, rfl, _, _, rfl, rfl, _, _, rfl, rfl, _, _, rfl, IsTh.up sT.upT _ _ iD, rfl⟩
          · rcases List.mem_append.mp mg with mg | mg
            · exact ff g mg
            · rw [List.mem_singleton.mp mg]; exact fT
          · rw [List.map_append, fn, take_more en]; rfl
          · rw [List.map_append, fm, take_more ec, List.map_append]; rfl
        · have kT := k11
          obtain ⟨dd, iD, okD⟩ : ∃ dd : List Th, IsTh K _ (.tup dd) (.ref ed) ∧ (dd = [] ∨ ∃ u, dd = [u] ∧ Leaf u) := ⟨[], IsTh.up ((s9.trans s10).upT.trans (t11.upT k10.st.feed)) _ _ i8, .inl rfl⟩
          refine ⟨_, rfl, .inl ⟨rfl, _, SqL.of kT.d⟩, _, rfl, _, rfl, _, rfl, C, _, _, _, rfl, rfl, SqL.of kT.c, eC, _, rfl, _, rfl, (by show 4 ≤ sizeLine; decide), fun eT hT => ?_⟩
          have sT := Same.lay (o := .tup [.int n, .str cx, .str nm, .ref ed]) hT
          have kU := kT.same sT
          refine ⟨D, ws, _, rfl, rfl, kU.d, wl, ?_⟩
          have uD : UpT K _ (upd _ D (.lst (ws ++ [.ref eT]))) := upT_set kU.d
          have fT : FieldF (.tup [.int n, .str cx, .str nm, .tup dd]) := ⟨n, cx, nm, dd, rfl, nN, okC.mem cx mC, hw nm mn, okD⟩
          refine ⟨⟨_, _, _, _, rfl⟩, (kU.st.put nD (fe.far nD)).mono (by omega), by rw [upd_ne nDC.symm]; exact kU.c, by rw [upd_ne nDN.symm]; exact kU.n, fs ++ [.tup [.int n, .str cx, .str nm, .tup dd]], _, upd_same, ?_, fun g mg => ?_, ?_, ?_⟩
          · refine AreTh.append (AreTh.up uD _ _ kU.a) (AreTh.one (IsTh.up uD _ _ ⟨eT, _, rfl, SqT.of upd_same, ?_⟩))
            exact ⟨_, _, rfl, rfl, _, _, rfl, rfl, _, _, rfl, rfl, _, _, rfl, IsTh.up sT.upT _ _ iD, rfl⟩
          · rcases List.mem_append.mp mg with mg | mg
            · exact ff g mg
            · rw [List.mem_singleton.mp mg]; exact fT
          · rw [List.map_append, fn, take_more en]; rfl
          · rw [List.map_append, fm, take_more ec, List.map_append]; rfl
      · obtain ⟨pv, vs, rfl, hv9, v0, vr, rfl, i0, _⟩ := it9
        cases (show v0 = .str "choice" from i0)
        refine ⟨pv, _, _, _, rfl, rfl, hv9, at0, (by show 2 ≤ sizeLine; decide), fun e10 h10 => ?_⟩
        have s10 := Same.lay (o := .tup [.str "none", .str "choice"]) h10
        refine ⟨e10, _, rfl, .inr (SqT.of upd_same), rfl, rfl, _, rfl, iteN (by decide +kernel) (iteF ?_)⟩
        have kT := (k9.same s10)
        obtain ⟨dd, iD, okD⟩ : ∃ dd : List Th, IsTh K _ (.tup dd) (.ref ed) ∧ (dd = [] ∨ ∃ u, dd = [u] ∧ Leaf u) := ⟨[], IsTh.up (s9.trans s10).upT _ _ i8, .inl rfl⟩
        refine ⟨_, rfl, .inl ⟨rfl, _, SqL.of kT.d⟩, _, rfl, _, rfl, _, rfl, C, _, _, _, rfl, rfl, SqL.of kT.c, eC, _, rfl, _, rfl, (by show 4 ≤ sizeLine; decide), fun eT hT => ?_⟩
        have sT := Same.lay (o := .tup [.int n, .str cx, .str nm, .ref ed]) hT
        have kU := kT.same sT
        refine ⟨D, ws, _, rfl, rfl, kU.d, wl, ?_⟩
        have uD : UpT K _ (upd _ D (.lst (ws ++ [.ref eT]))) := upT_set kU.d
        have fT : FieldF (.tup [.int n, .str cx, .str nm, .tup dd]) := ⟨n, cx, nm, dd, rfl, nN, okC.mem cx mC, hw nm mn, okD⟩
        refine ⟨⟨_, _, _, _, rfl⟩, (kU.st.put nD (fe.far nD)).mono (by omega), by rw [upd_ne nDC.symm]; exact kU.c, by rw [upd_ne nDN.symm]; exact kU.n, fs ++ [.tup [.int n, .str cx, .str nm, .tup dd]], _, upd_same, ?_, fun g mg => ?_, ?_, ?_⟩
        · refine AreTh.append (AreTh.up uD _ _ kU.a) (AreTh.one (IsTh.up uD _ _ ⟨eT, _, rfl, SqT.of upd_same, ?_⟩))
          exact ⟨_, _, rfl, rfl, _, _, rfl, rfl, _, _, rfl, rfl, _, _, rfl, IsTh.up sT.upT _ _ iD, rfl⟩
        · rcases List.mem_append.mp mg with mg | mg
          · exact ff g mg
          · rw [List.mem_singleton.mp mg]; exact fT
        · rw [List.map_append, fn, take_more en]; rfl
        · rw [List.map_append, fm, take_more ec, List.map_append]; rfl
  · rintro σ H5 ⟨⟨o5, o6, o7, o8, rfl⟩, t5, h5C, h5N, fs, ws, h5D, af, ff, fn, fm⟩
    refine ⟨_, rfl, D, ws, rfl, .inl ⟨SqL.of h5D, fun e he => ?_⟩⟩
    have s6 := Same.lay (o := .tup ws) he
    rw [List.take_of_length_le (by rw [List.length_map]; exact Nat.le_refl _)] at fn
    have fl : fs.length = ns.length := by rw [← fn, List.length_map]
    refine q (.ref e) fs _ ⟨e, ws, rfl, SqT.of upd_same, AreTh.up s6.upT _ _ af⟩ ⟨by omega, ff, by rw [fn]; exact sbN, ?_⟩ ((t5.same s6).mono (by omega))
    rw [fm]
    exact nodup_inr (List.Sublist.nodup (List.take_sublist _ _) okC.nd)
end
end K19
namespace K19
open PySem PySem.Spec PyProof.Rows L2 K01
theorem nums_rise {ns : List Int} (h : ns.Sublist NUMS) : risesTh (ns.map Th.int) = true := (rises_ints ns).mpr (pair_adj (List.Pairwise.sublist h (by decide : NUMS.Pairwise (· < ·))))
theorem strk_rise {ns : List Int} (h : ns.Sublist STRK) : risesTh (ns.map Th.int) = true := (rises_ints ns).mpr (pair_adj (List.Pairwise.sublist h (by decide : STRK.Pairwise (· < ·))))
theorem nums_whole : ∀ n ∈ NUMS, wholeTh 1 999 (.int n) = true := by decide
theorem strk_whole : ∀ n ∈ STRK, wholeTh 1 999 (.int n) = true := by decide
theorem struck_true {ns us : List Int} (hu : us.Sublist STRK) (hn : ∀ u ∈ us, u ∉ ns) : struckTh ns (.tup (us.map Th.int)) = true := by
  have l8 : (us.map Th.int).length ≤ 8 := by
    rw [List.length_map]
    exact Nat.le_trans hu.length_le (by decide)
  have aw : (us.map Th.int).all (wholeTh 1 999) = true := by
    rw [List.all_eq_true]
    intro t m
    obtain ⟨u, mu, rfl⟩ := List.mem_map.mp m
    exact strk_whole u (hu.subset mu)
  have an : ((us.map Th.int).any fun u => inV (.int (iOf u)) (ns.map V.int)) = false := by
    rw [List.any_eq_false]
    intro t m
    obtain ⟨u, mu, rfl⟩ := List.mem_map.mp m
    show ¬ inV (.int u) (ns.map V.int) = true
    rw [inV_int, decide_eq_true_iff]
    exact hn u mu
  show ((decide ((us.map Th.int).length ≤ 8) && (us.map Th.int).all (wholeTh 1 999)) && (risesTh (us.map Th.int) && !(us.map Th.int).any fun u => inV (.int (iOf u)) (ns.map V.int))) = true
  rw [decide_eq_true l8, aw, strk_rise hu, an]; rfl
def armOf : Th → Th
  | .tup (a :: b :: c :: _) => .tup [a, b, c]
  | t => t
theorem field_true {f : Th} (h : FieldF f) : membTh true f = true ∧ membTh false (armOf f) = true ∧ numTh (armOf f) = numTh f ∧ namTh (armOf f) = namTh f ∧ numTh f = .int (iOf (numTh f)) := by
  obtain ⟨n, x, y, d, rfl, mn, mx, my, hd⟩ := h
  have e1 : armTh (.tup [.int n, .str x, .str y]) = true := by
    show (wholeTh 1 999 (.int n) && nameTh (.str x) && nameTh (.str y)) = true
    rw [nums_whole n mn, words_name x mx, words_name y my]; rfl
  have e2 : defTh (.tup d) = true := by
    rcases hd with rfl | ⟨u, rfl, _⟩ <;> rfl
  refine ⟨?_, e1, rfl, rfl, rfl⟩
  show (armTh (.tup [.int n, .str x, .str y]) && defTh (.tup d)) = true
  rw [e1, e2]; rfl
theorem parts_all {fs : List Th} (h : ∀ f ∈ fs, FieldF f) : fs.all (membTh true) = true ∧ (fs.map armOf).all (membTh false) = true := by
  constructor
  · rw [List.all_eq_true]
    exact fun f m => (field_true (h f m)).1
  · rw [List.all_eq_true]
    intro t m
    obtain ⟨f, mf, rfl⟩ := List.mem_map.mp m
    exact (field_true (h f mf)).2.1
theorem parts_rec {fs : List Th} {us : List Int} (h : PartsOk fs) (hu : us.Sublist STRK) (hn : ∀ u ∈ us, u ∉ fs.map fun f => iOf (numTh f)) : membersTh true (.tup (us.map Th.int)) (.tup fs) = true := by
  have aw := (parts_all h.form).1
  show ((decide (fs.length ≤ 8) && fs.all (membTh true)) && (risesTh (fs.map numTh) && (decide ((fs.map fun t => kOf (namTh t)).Nodup) && struckTh (fs.map fun t => iOf (numTh t)) (.tup (us.map Th.int))))) = true
  rw [decide_eq_true (show fs.length ≤ 8 from Nat.le_trans h.len (by decide)), aw, nums_eq aw, nums_rise h.nums, decide_eq_true h.names, struck_true hu hn]; rfl
theorem parts_cho {fs : List Th} {us : List Int} (h : PartsOk fs) (hu : us.Sublist STRK) (hn : ∀ u ∈ us, u ∉ fs.map fun f => iOf (numTh f)) : membersTh false (.tup (us.map Th.int)) (.tup (fs.map armOf)) = true := by
  have aw := (parts_all h.form).2
  have e1 : ((fs.map armOf).map fun t => iOf (numTh t)) = fs.map fun t => iOf (numTh t) := by
    rw [List.map_map]
    exact List.map_congr_left fun f m => by show iOf (numTh (armOf f)) = _; rw [(field_true (h.form f m)).2.2.1]
  have e2 : ((fs.map armOf).map fun t => kOf (namTh t)) = fs.map fun t => kOf (namTh t) := by
    rw [List.map_map]
    exact List.map_congr_left fun f m => by show kOf (namTh (armOf f)) = _; rw [(field_true (h.form f m)).2.2.2.1]
  show ((decide ((fs.map armOf).length ≤ 8) && (fs.map armOf).all (membTh false)) && (risesTh ((fs.map armOf).map numTh) && (decide (((fs.map armOf).map fun t => kOf (namTh t)).Nodup) && struckTh ((fs.map armOf).map fun t => iOf (numTh t)) (.tup (us.map Th.int))))) = true
  rw [decide_eq_true (show (fs.map armOf).length ≤ 8 by rw [List.length_map]; exact Nat.le_trans h.len (by decide)), aw, nums_eq aw, e1, e2, nums_rise h.nums, decide_eq_true h.names, struck_true hu hn]; rfl
structure GoodS (t : Th) : Prop where
  sh : shapeTh t = true
  gd : gdT t
  dp : dpT t ≤ 5
  wd : wdT t ≤ 8
  nq : nqT t
theorem plain_good {t : Th} (h : PlainS t) : GoodS t := by
  obtain ⟨a, b, c⟩ := plain_fine h
  refine ⟨plain_shape h, a, by omega, by omega, ?_⟩
  rcases h with ⟨lo, hi, rfl, _⟩ | rfl | ⟨n, rfl, _⟩ | ⟨b, x, n, rfl, _⟩
  · exact ⟨trivial, trivial, trivial, trivial⟩
  · exact ⟨trivial, trivial⟩
  · exact ⟨trivial, trivial, trivial⟩
  · exact ⟨trivial, trivial, trivial, trivial⟩
theorem field_nq {f : Th} (h : FieldF f) : nqT f ∧ nqT (armOf f) := by
  obtain ⟨n, x, y, d, rfl, mn, mx, my, hd⟩ := h
  refine ⟨⟨trivial, trivial, trivial, ?_, trivial⟩, ⟨trivial, trivial, trivial, trivial⟩⟩
  rcases hd with rfl | ⟨u, rfl, lu⟩
  · exact trivial
  · exact ⟨lu.nq, trivial⟩
theorem ints_nq (us : List Int) : nqTs (us.map Th.int) := nqTs_all fun t m => by
  obtain ⟨u, _, rfl⟩ := List.mem_map.mp m
  exact trivial
theorem field_fine {f : Th} (h : FieldF f) : (gdT f ∧ dpT f ≤ 3 ∧ wdT f ≤ 4) ∧ (gdT (armOf f) ∧ dpT (armOf f) ≤ 3 ∧ wdT (armOf f) ≤ 4) := by
  obtain ⟨n, x, y, d, rfl, mn, mx, my, hd⟩ := h
  have gx := words_gd x mx
  have gy := words_gd y my
  have D : gdTs d ∧ dpTs d ≤ 1 ∧ wdTs d ≤ 4 ∧ d.length ≤ 1 := by
    rcases hd with rfl | ⟨u, rfl, lu⟩
    · exact ⟨trivial, by decide, by decide, by decide⟩
    · refine ⟨⟨lu.gd, trivial⟩, ?_, ?_, by show 1 ≤ 1; decide⟩
      · have := lu.dp; simp only [dpTs]; omega
      · have := lu.wd; simp only [wdTs]; omega
  refine ⟨⟨⟨trivial, gx, gy, D.1, trivial⟩, ?_, ?_⟩, ⟨⟨trivial, gx, gy, trivial⟩, by show 1 ≤ 3; decide, by show 3 ≤ 4; decide⟩⟩
  · have := D.2.1
    simp only [dpT, dpTs]; omega
  · have := D.2.2
    simp only [wdT, wdTs, List.length_cons, List.length_nil]; omega
theorem ints_fine (us : List Int) : gdTs (us.map Th.int) ∧ dpTs (us.map Th.int) = 0 ∧ wdTs (us.map Th.int) = 0 := by
  induction us with
  | nil => exact ⟨trivial, rfl, rfl⟩
  | cons u us ih =>
    obtain ⟨a, b, c⟩ := ih
    refine ⟨⟨trivial, a⟩, ?_, ?_⟩
    · rw [List.map_cons]; simp only [dpTs, dpT, b]; rfl
    · rw [List.map_cons]; simp only [wdTs, wdT, c]; rfl
theorem words2_gd : gdT (.str "record") ∧ gdT (.str "choice") := ⟨lit_gd (by decide +kernel) (by decide +kernel), lit_gd (by decide +kernel) (by decide +kernel)⟩
theorem rec_good {fs : List Th} {us : List Int} (h : PartsOk fs) (hu : us.Sublist STRK) (hn : ∀ u ∈ us, u ∉ fs.map fun f => iOf (numTh f)) : GoodS (.tup [.str "record", .tup fs, .tup (us.map Th.int)]) := by
  obtain ⟨a, b, c⟩ := ints_fine us
  have ul : us.length ≤ 4 := hu.length_le
  have d1 : dpTs fs ≤ 3 := dpTs_le fun t m => (field_fine (h.form t m)).1.2.1
  have w1 : wdTs fs ≤ 4 := wdTs_le fun t m => (field_fine (h.form t m)).1.2.2
  have hl := h.len
  refine ⟨?_, ⟨words2_gd.1, gdTs_all.mpr fun t m => (field_fine (h.form t m)).1.1, a, trivial⟩, ?_, ?_, ⟨trivial, nqTs_all fun t m => (field_nq (h.form t m)).1, ints_nq us, trivial⟩⟩
  · rw [shape_d]; exact parts_rec h hu hn
  · simp only [dpT, dpTs, b]; omega
  · simp only [wdT, wdTs, c, List.length_cons, List.length_nil, List.length_map]; omega
theorem cho_good {fs : List Th} {us : List Int} {b : Bool} (h : PartsOk fs) (hu : us.Sublist STRK) (hn : ∀ u ∈ us, u ∉ fs.map fun f => iOf (numTh f)) : GoodS (.tup [.str "choice", .tup (fs.map armOf), .tup (us.map Th.int), .bl b]) := by
  obtain ⟨a, b', c⟩ := ints_fine us
  have ul : us.length ≤ 4 := hu.length_le
  have F : ∀ t ∈ fs.map armOf, gdT t ∧ dpT t ≤ 3 ∧ wdT t ≤ 4 := fun t m => by
    obtain ⟨f, mf, rfl⟩ := List.mem_map.mp m
    exact (field_fine (h.form f mf)).2
  have d1 : dpTs (fs.map armOf) ≤ 3 := dpTs_le fun t m => (F t m).2.1
  have w1 : wdTs (fs.map armOf) ≤ 4 := wdTs_le fun t m => (F t m).2.2
  have hl := h.len
  refine ⟨?_, ⟨words2_gd.2, gdTs_all.mpr fun t m => (F t m).1, a, trivial, trivial⟩, ?_, ?_, ⟨trivial, nqTs_all fun t m => by
    obtain ⟨f, mf, rfl⟩ := List.mem_map.mp m
    exact (field_nq (h.form f mf)).2, ints_nq us, trivial, trivial⟩⟩
  · rw [shape_c]
    show (membersTh false (.tup (us.map Th.int)) (.tup (fs.map armOf)) && true) = true
    rw [parts_cho h hu hn]; rfl
  · simp only [dpT, dpTs, b']; omega
  · simp only [wdT, wdTs, c, List.length_cons, List.length_nil, List.length_map]; omega
end K19
namespace K19
open PySem PySem.Spec PyProof.Rows L2 K01
abbrev s_law_make : Stmt := top 34
abbrev N_law_make : List Str := ["_law_feed_here", "_law_names_here", "_law_shapes", "_law_name", "_law_way", "_law_arms", "_law_struck_here", "_law_plain", "_law_parts_here"]
theorem sc_law_make : FnScope N_law_make ["_law_feed_here"] (defScope s_law_make) := ⟨rfl, rfl, rfl, by decide +kernel, rfl, by decide +kernel, by decide +kernel⟩
structure UpO (K : PySem.W.Frag) (H H' : Hp) : Prop where
  tup : Up K H H'
  lst : ∀ a xs, H a = some (.lst xs) → ∃ ys, H' a = some (.lst ys)
  dct : ∀ a kvs, H a = some (.dK kvs) → ∃ kvs', H' a = some (.dK kvs')
theorem upO_of {K : PySem.W.Frag} {H H' : Hp} (u : UpT K H H') : UpO K H H' := ⟨u.tup, u.lst, fun a k h => ⟨k, u.dct a k h⟩⟩
mutual
theorem isTh_upO {K : PySem.W.Frag} {H H' : Hp} (u : UpO K H H') : ∀ (t : Th) (v : V), IsTh K H t v → IsTh K H' t v
  | .non, _, h => h
  | .bl _, _, h => h
  | .int _, _, h => h
  | .str _, _, h => h
  | .tup ts, v, h => by
    obtain ⟨a, vs, e, q, r⟩ := h
    exact ⟨a, vs, e, u.tup a vs q, areTh_upO u ts vs r⟩
  | .opq, v, h => by
    obtain ⟨a, e, q⟩ := h
    refine ⟨a, e, ?_⟩
    rcases q with ⟨xs, q⟩ | ⟨k, q⟩
    · exact .inl (u.lst a xs q)
    · exact .inr (u.dct a k q)
theorem areTh_upO {K : PySem.W.Frag} {H H' : Hp} (u : UpO K H H') : ∀ (ts : List Th) (vs : List V), AreTh K H ts vs → AreTh K H' ts vs
  | [], _, h => h
  | t :: ts, vs, h => by
    obtain ⟨v, r, e, q, w⟩ := h
    exact ⟨v, r, e, isTh_upO u t v q, areTh_upO u ts r w⟩
end
theorem upO_put {K : PySem.W.Frag} {H : Hp} {S : Addr} {kvs kvs' : List (Key × V)} (h : H S = some (.dK kvs)) : UpO K H (upd H S (.dK kvs')) := by
  have ne : ∀ {x : Addr} {o : HO}, H x = some o → (∀ k, o ≠ .dK k) → x ≠ S := fun e n z => by
    rw [z, h] at e
    cases e
    exact n _ rfl
  refine ⟨fun c xs q => ?_, fun a xs q => ⟨xs, by rw [upd_ne (ne q fun _ z => nomatch z)]; exact q⟩, fun a k q => ?_⟩
  · rcases q with (q | ⟨o, q⟩) | q
    · exact .inl (.inl (by rw [upd_ne (ne q fun _ z => nomatch z)]; exact q))
    · exact .inl (.inr ⟨o, by rw [upd_ne (ne q fun _ z => nomatch z)]; exact q⟩)
    · exact .inr q
  · by_cases z : a = S
    · exact ⟨kvs', by rw [z, upd_same]⟩
    · exact ⟨k, by rw [upd_ne z]; exact q⟩
def DicG (K : PySem.W.Frag) (H : Hp) (q : Th → Prop) (kvs : List (Key × V)) : Prop := ∀ k v, valV kvs k = some v → ∃ t, IsTh K H t v ∧ q t
theorem DicG.up {K : PySem.W.Frag} {H H' : Hp} {q : Th → Prop} {kvs : List (Key × V)} (h : DicG K H q kvs) (u : UpO K H H') : DicG K H' q kvs := fun k v e =>
  let ⟨t, i, c⟩ := h k v e
  ⟨t, isTh_upO u t v i, c⟩
theorem DicG.put {K : PySem.W.Frag} {H : Hp} {q : Th → Prop} {kvs : List (Key × V)} (h : DicG K H q kvs) {k : Key} {v : V} {t : Th} (i : IsTh K H t v) (c : q t) : DicG K H q (putK kvs k v) := fun j x e => by
  rw [valV_put] at e
  split at e
  · cases e; exact ⟨t, i, c⟩
  · exact h j x e
theorem putK_len (kvs : List (Key × V)) (k : Key) (v : V) : (putK kvs k v).length ≤ kvs.length + 1 := by
  unfold putK
  split
  · rw [List.length_map]; omega
  · rw [List.length_append, List.length_singleton]; omega
structure Mk (K : PySem.W.Frag) (l C S : Addr) (H : Hp) (cs : List Str) (q : Th → Prop) (r n : Nat) (Ha : Hp) : Prop where
  st : Stp l r H Ha
  c : Ha C = some (.lst (cs.map V.str))
  d : ∃ kvs, Ha S = some (.dK kvs) ∧ kvs.length ≤ n ∧ DicG K Ha q kvs
section
variable {K : PySem.W.Frag} {l C S : Addr} {H Ha Hb : Hp} {cs : List Str} {q q' : Th → Prop} {r r' n n' : Nat}
theorem Mk.same (k : Mk K l C S H cs q r n Ha) (s : Same Ha Hb) : Mk K l C S H cs q r n Hb :=
  let ⟨kvs, e, z, g⟩ := k.d
  ⟨k.st.same s, s _ _ k.c, kvs, s _ _ e, z, g.up (upO_of s.upT)⟩
theorem Mk.step (k : Mk K l C S H cs q r n Ha) (t : Stp l r' Ha Hb) (c : C ≠ l) (d : S ≠ l) : Mk K l C S H cs q r' n Hb :=
  let ⟨kvs, e, z, g⟩ := k.d
  ⟨k.st.trans t, t.keep _ _ c k.c, kvs, t.keep _ _ d e, z, g.up (upO_of (t.upT k.st.feed))⟩
theorem Mk.mono (k : Mk K l C S H cs q r n Ha) (h : r' ≤ r) (hn : n ≤ n') (hq : ∀ t, q t → q' t) : Mk K l C S H cs q' r' n' Ha :=
  let ⟨kvs, e, z, g⟩ := k.d
  ⟨k.st.mono h, k.c, kvs, e, Nat.le_trans z hn, fun j v ev => let ⟨t, i, c⟩ := g j v ev; ⟨t, i, hq t c⟩⟩
theorem Mk.put (k : Mk K l C S H cs q r n Ha) (fe : Fd r' H l) (nS : H S = none) (nCS : C ≠ S) {j : Key} {v : V} {t : Th} (i : IsTh K Ha t v) (c : q t) (hn : n < sizeLine) : ∃ Hb, DPut Ha S (kV j) v Hb ∧ Mk K l C S H cs q r (n + 1) Hb ∧ (∀ a, a ≠ S → Hb a = Ha a) ∧ UpO K Ha Hb := by
  obtain ⟨kvs, e, z, g⟩ := k.d
  refine ⟨_, .inl ⟨kvs, j, e, rfl, Nat.lt_of_le_of_lt z hn, rfl⟩, ⟨k.st.put nS (fe.far nS), by rw [upd_ne nCS]; exact k.c, _, upd_same, Nat.le_trans (putK_len _ _ _) (Nat.succ_le_succ z), ?_⟩, fun a n => upd_ne n, upO_put e⟩
  exact (g.put i c).up (upO_put e)
end
theorem compT_list {K : PySem.W.Frag} {H : Hp} {a D : Addr} {xs : List V} {ts : List Th} {te : TE} {fin : Hp → Prop} {τ : L2.St} {o : Option V} {f : Th → Th} (ha : SqL K H a xs) (hA : AreTh K H ts xs) (hl : ts.length ≤ 1000000) (hD : H D = none)
    (h : ∀ t v H5 (Q : VK), t ∈ ts → Same H H5 → IsTh K H5 t v → (∀ v' H6, Same H5 H6 → IsTh K H6 (f t) v' → Q v' H6) → te (some v :: τ) H5 Q)
    (hf : ∀ H6 ws, Same H H6 → H6 D = some (.lst ws) → AreTh K H6 (ts.map f) ws → fin H6) :
    ∃ W : Nat → Nat → List V → L2.St → Hp → Prop, (∃ m, W 0 m [] (o :: τ) (upd H D (.lst []))) ∧ CompW (Itl K a) (gName 0) tAlways te D W fin := by
  have hlen := hA.length
  refine comp_list (xs := xs) (fun i ys σ H5 => (∃ o', σ = o' :: τ) ∧ AreTh K H5 ((ts.take i).map f) ys ∧ Same H H5 ∧ H5 D = some (.lst ys)) ⟨⟨_, rfl⟩, rfl, (Same.refl H).put hD, upd_same⟩ ?_ ?_ ?_
  · rintro i ys σ H5 hi ⟨_, _, s5, h5⟩
    exact ⟨s5.seq ha, h5⟩
  · rintro i x ys σ H5 hx ⟨⟨o', rfl⟩, ar, s5, h5⟩
    obtain ⟨t, et, it⟩ := hA.got hx
    refine goAlways (h t x H5 _ (List.mem_of_getElem? et) s5 (IsTh.up s5.upT t x it) fun v' H6 s6 i6 => ?_)
    refine ⟨s6 _ _ h5, ?_, ⟨_, rfl⟩, ?_, (s5.trans s6).put hD, upd_same⟩
    · rw [← ar.length, List.length_map, List.length_take]; exact Nat.lt_of_le_of_lt (Nat.le_trans (Nat.min_le_right _ _) hl) (by decide)
    · rw [take_more et, List.map_append]
      have u6 : UpT K H6 (upd H6 D (.lst (ys ++ [v']))) := upT_set (s6 _ _ h5)
      exact AreTh.append (AreTh.up (s6.upT.trans u6) _ _ ar) (AreTh.one (IsTh.up u6 _ _ i6))
  · rintro ys σ H5 ⟨_, ar, s5, h5⟩
    refine hf H5 ys s5 h5 ?_
    rw [← hlen, List.take_length] at ar
    exact ar
theorem arms_nums {fs : List Th} (h : ∀ f ∈ fs, FieldF f) : (fs.map armOf).map numTh = (fs.map fun f => iOf (numTh f)).map Th.int := by
  rw [List.map_map, List.map_map]
  exact List.map_congr_left fun f m => by
    have z := field_true (h f m)
    show numTh (armOf f) = .int (iOf (numTh f))
    rw [z.2.2.1]; exact z.2.2.2.2
theorem recs_nums {fs : List Th} (h : ∀ f ∈ fs, FieldF f) : fs.map numTh = (fs.map fun f => iOf (numTh f)).map Th.int := by
  rw [List.map_map]
  exact List.map_congr_left fun f m => (field_true (h f m)).2.2.2.2
theorem of_ints {K : PySem.W.Frag} {H : Hp} : ∀ us : List Int, AreTh K H (us.map Th.int) (us.map V.int)
  | [] => rfl
  | u :: us => ⟨_, _, rfl, rfl, of_ints us⟩
def PC (t : Th) : Prop := PlainS t ∨ ∃ ts, t = .tup (.str "choice" :: ts)
def spMake (K : PySem.W.Frag) : Sp := fun vs H Q _ => ∃ (l : Addr) (r : Nat), vs = [.ref l] ∧ Fd (r + 400) H l ∧ ∀ (e S : Addr) (v : V) (kvs : List (Key × V)) (H' : Hp), SqT K H' e [v, .ref S] → H' S = some (.dK kvs) → H S = none → kvs.length ≤ 20 → DicG K H' GoodS kvs → Stp l r H H' → Q (.ref e) H'
section
variable {P : Program} {w : World} {K : PySem.W.Frag} {mg : Str → Option Value} {base : Heap} {f : Addr} {fd : FuncData}
theorem ok_make (F : Fun K "_law_make" "_law_make" s_law_make f fd) (m : Bn mg) (g_law_draw : Fn P w K mg base 1 "_law_draw" ["_law_feed_here", "_law_many_here"] spDraw) (g_law_names : Fn P w K mg base 2 "_law_names" ["_law_feed_here", "_law_many_here"] spNames)
    (g_law_plain_shape : Fn P w K mg base 2 "_law_plain_shape" ["_law_feed_here", "_law_names_here"] (spPlainS K)) (g_law_parts : Fn P w K mg base 3 "_law_parts" ["_law_feed_here", "_law_names_here", "_law_shapes"] (spPartsD K))
    (g_law_struck : Fn P w K mg base 2 "_law_struck" ["_law_feed_here", "_law_numbers_here"] (spStruckD K)) : FnOk P w K mg base CX0 4 f fd ["_law_feed_here"] (spMake K) := by
  refine F.ok sc_law_make (fun vs H Q E h => ?_) (fun cdv A outer s H vs Q E hr h => ?_)
  · obtain ⟨l, r, rfl, _⟩ := h
    rfl
  obtain ⟨l, r, rfl, fe, q⟩ := h
  refine ⟨_, (@pss_cons _ _ _ _ _ (@ps_setI _ 1 _ _ _ _ _ sc_law_make.nd rfl (by first | exact Or.inl rfl | exact Or.inr rfl) (@pe_callF _ _ _ _ _ _ _ _ _ _ g_law_names (hr.mono (by omega)) rfl (@pa_cons _ _ _ _ _ (pv 0) (@pa_cons _ _ _ _ _ (@pe_op _ _ _ _ _ _ _ _ op_add pe_int (@pe_callF _ _ _ _ _ _ _ _ _ _ g_law_draw (hr.mono (by omega)) rfl (@pa_cons _ _ _ _ _ (pv 0) (@pa_cons _ _ _ _ _ pe_int pa_nil rfl) rfl) (by decide) rfl rfl)) pa_nil rfl) rfl) (by decide) rfl rfl) rfl (by first | exact .inl rfl | exact .inr rfl)) (@pss_cons _ _ _ _ _ (@ps_setI _ 2 _ _ _ _ _ sc_law_make.nd rfl (by first | exact Or.inl rfl | exact Or.inr rfl) (@pe_dct0 _ _) rfl (by first | exact .inl rfl | exact .inr rfl)) (@pss_cons _ _ _ _ _ (@ps_for _ _ _ _ _ _ _ _ PassesOwn.never rfl (@pi_list _ _ _ _ (@pe_slice _ _ _ _ _ _ _ _ _ _ sl_list (pv 1) (@po_some _ _ _ pe_int) (@po_none _))) (@pg_nameI _ 3 _ _ sc_law_make.nd rfl (by first | exact Or.inl rfl | exact Or.inr rfl) (by first | exact .inl rfl | exact .inr rfl)) (@pss_cons _ _ _ _ _ (@ps_setI _ 4 _ _ _ _ _ sc_law_make.nd rfl (by first | exact Or.inl rfl | exact Or.inr rfl) (@pe_callF _ _ _ _ _ _ _ _ _ _ g_law_draw (hr.mono (by omega)) rfl (@pa_cons _ _ _ _ _ (pv 0) (@pa_cons _ _ _ _ _ pe_int pa_nil rfl) rfl) (by decide) rfl rfl) rfl (by first | exact .inl rfl | exact .inr rfl)) (@pss_one _ _ _ (@ps_if _ _ _ _ _ _ _ _ (@pt_cmpR _ _ _ _ _ _ _ _ op_lt (pv 4) pe_int (nomark _)) (@pss_one _ _ _ (@ps_dput _ _ _ _ _ _ _ _ _ (hu_of hr) (pv 2) (pv 3) (@pe_callF _ _ _ _ _ _ _ _ _ _ g_law_plain_shape (hr.mono (by omega)) rfl (@pa_cons _ _ _ _ _ (pv 0) (@pa_cons _ _ _ _ _ (pv 1) pa_nil rfl) rfl) (by decide) rfl rfl) rfl)) (@pss_one _ _ _ (@ps_if _ _ _ _ _ _ _ _ (@pt_cmpR _ _ _ _ _ _ _ _ op_eq (pv 4) pe_int (nomark _)) (@pss_cons _ _ _ _ _ (@ps_setCompI _ 5 N_law_make (defScope s_law_make) ["_law_part"] [none] _ _ _ _ _ _ _ _ _ _ _ _ _ sc_law_make.nd rfl (by first | exact Or.inl rfl | exact Or.inr rfl) rfl (@pi_tup _ _ _ _ (@pe_callF _ _ _ _ _ _ _ _ _ _ g_law_parts (hr.mono (by omega)) rfl (@pa_cons _ _ _ _ _ (pv 0) (@pa_cons _ _ _ _ _ (pv 1) (@pa_cons _ _ _ _ _ (@pe_dct0 _ _) pa_nil rfl) rfl) rfl) (by decide) rfl rfl)) ⟨rfl, rfl, by decide +kernel, by decide +kernel⟩ (fun _ _ _ =>  (@pg_nameI _ 0 _ _ (show List.Nodup (["_law_part"] : List Str) from by decide +kernel) rfl (Or.inl rfl) (by first | exact .inl rfl | exact .inr rfl))) (fun _ _ _ =>  pts_nil) (fun _ _ _ =>  (@pe_slice _ _ _ _ _ _ _ _ _ _ sl_tupG (pv 0) (@po_none _) (@po_some _ _ _ pe_int))) (by first | rfl | decide | (intro _; rfl) | exact .inl rfl | exact .inr rfl | assumption) (by first | rfl | decide | (intro _; rfl) | exact .inl rfl | exact .inr rfl | assumption) (by first | rfl | decide | (intro _; rfl) | exact .inl rfl | exact .inr rfl | assumption)) (@pss_cons _ _ _ _ _ (@ps_setI _ 6 _ _ _ _ _ sc_law_make.nd rfl (by first | exact Or.inl rfl | exact Or.inr rfl) (@pe_callF _ _ _ _ _ _ _ _ _ _ g_law_struck (hr.mono (by omega)) rfl (@pa_cons _ _ _ _ _ (pv 0) (@pa_cons _ _ _ _ _ (@pe_compI _ N_law_make (defScope s_law_make) ["_law_part"] [none] _ _ _ _ _ _ _ _ _ _ rfl (@pi_list _ _ _ _ (pv 5)) ⟨rfl, rfl, by decide +kernel, by decide +kernel⟩ (fun _ _ _ =>  (@pg_nameI _ 0 _ _ (show List.Nodup (["_law_part"] : List Str) from by decide +kernel) rfl (Or.inl rfl) (by first | exact .inl rfl | exact .inr rfl))) (fun _ _ _ =>  pts_nil) (fun _ _ _ =>  (@pe_ix _ _ _ _ _ _ _ ix_tup (pv 0) pe_int (fun _ _ =>  rfl))) (by first | rfl | decide | (intro _; rfl) | exact .inl rfl | exact .inr rfl | assumption)) pa_nil rfl) rfl) (by decide) rfl rfl) rfl (by first | exact .inl rfl | exact .inr rfl)) (@pss_one _ _ _ (@ps_dput _ _ _ _ _ _ _ _ _ (hu_of hr) (pv 2) (pv 3) (@pe_tup _ _ _ _ _ (@pa_cons _ _ _ _ _ pe_str (@pa_cons _ _ _ _ _ (@pe_callTy _ _ _ _ _ _ _ _ _ call_tuple_of rfl m.tuple b_tuple (@pa_cons _ _ _ _ _ (pv 5) pa_nil rfl) (by first | rfl | decide | (intro _; rfl) | exact .inl rfl | exact .inr rfl | assumption) (by first | rfl | decide | (intro _; rfl) | exact .inl rfl | exact .inr rfl | assumption) (by first | rfl | decide | (intro _; rfl) | exact .inl rfl | exact .inr rfl | assumption) (by first | rfl | decide | (intro _; rfl) | exact .inl rfl | exact .inr rfl | assumption)) (@pa_cons _ _ _ _ _ (pv 6) (@pa_cons _ _ _ _ _ (@pe_cmpR _ _ _ _ _ _ _ _ op_eq (@pe_callF _ _ _ _ _ _ _ _ _ _ g_law_draw (hr.mono (by omega)) rfl (@pa_cons _ _ _ _ _ (pv 0) (@pa_cons _ _ _ _ _ pe_int pa_nil rfl) rfl) (by decide) rfl rfl) pe_int (nomark _)) pa_nil rfl) rfl) rfl) rfl)) rfl)))) pss_nil))))) (by first | rfl | decide | (intro _; rfl) | exact .inl rfl | exact .inr rfl | assumption)) (@pss_cons _ _ _ _ _ (@ps_setI _ 7 _ _ _ _ _ sc_law_make.nd rfl (by first | exact Or.inl rfl | exact Or.inr rfl) (@pe_callTy _ _ _ _ _ _ _ _ _ call_dictOf rfl m.dict b_dict (@pa_cons _ _ _ _ _ (pv 2) pa_nil rfl) (by first | rfl | decide | (intro _; rfl) | exact .inl rfl | exact .inr rfl | assumption) (by first | rfl | decide | (intro _; rfl) | exact .inl rfl | exact .inr rfl | assumption) (by first | rfl | decide | (intro _; rfl) | exact .inl rfl | exact .inr rfl | assumption) (by first | rfl | decide | (intro _; rfl) | exact .inl rfl | exact .inr rfl | assumption)) rfl (by first | exact .inl rfl | exact .inr rfl)) (@pss_cons _ _ _ _ _ (@ps_for _ _ _ _ _ _ _ _ PassesOwn.never rfl (@pi_list _ _ _ _ (pv 1)) (@pg_nameI _ 3 _ _ sc_law_make.nd rfl (by first | exact Or.inl rfl | exact Or.inr rfl) (by first | exact .inl rfl | exact .inr rfl)) (@pss_one _ _ _ (@ps_if _ _ _ _ _ _ _ _ (@pt_cmp _ _ _ _ _ _ (@pc_dnotin _ _ _ _ _ (hu_of hr) (pv 3) (pv 2)) (by first | rfl | decide | (intro _; rfl) | exact .inl rfl | exact .inr rfl | assumption)) (@pss_cons _ _ _ _ _ (@ps_setI _ 8 _ _ _ _ _ sc_law_make.nd rfl (by first | exact Or.inl rfl | exact Or.inr rfl) (@pe_callF _ _ _ _ _ _ _ _ _ _ g_law_parts (hr.mono (by omega)) rfl (@pa_cons _ _ _ _ _ (pv 0) (@pa_cons _ _ _ _ _ (pv 1) (@pa_cons _ _ _ _ _ (pv 7) pa_nil rfl) rfl) rfl) (by decide) rfl rfl) rfl (by first | exact .inl rfl | exact .inr rfl)) (@pss_one _ _ _ (@ps_dput _ _ _ _ _ _ _ _ _ (hu_of hr) (pv 2) (pv 3) (@pe_tup _ _ _ _ _ (@pa_cons _ _ _ _ _ pe_str (@pa_cons _ _ _ _ _ (pv 8) (@pa_cons _ _ _ _ _ (@pe_callF _ _ _ _ _ _ _ _ _ _ g_law_struck (hr.mono (by omega)) rfl (@pa_cons _ _ _ _ _ (pv 0) (@pa_cons _ _ _ _ _ (@pe_compI _ N_law_make (defScope s_law_make) ["_law_part"] [none] _ _ _ _ _ _ _ _ _ _ rfl (@pi_tup _ _ _ _ (pv 8)) ⟨rfl, rfl, by decide +kernel, by decide +kernel⟩ (fun _ _ _ =>  (@pg_nameI _ 0 _ _ (show List.Nodup (["_law_part"] : List Str) from by decide +kernel) rfl (Or.inl rfl) (by first | exact .inl rfl | exact .inr rfl))) (fun _ _ _ =>  pts_nil) (fun _ _ _ =>  (@pe_ix _ _ _ _ _ _ _ ix_tup (pv 0) pe_int (fun _ _ =>  rfl))) (by first | rfl | decide | (intro _; rfl) | exact .inl rfl | exact .inr rfl | assumption)) pa_nil rfl) rfl) (by decide) rfl rfl) pa_nil rfl) rfl) rfl)) rfl))) pss_nil)) (by first | rfl | decide | (intro _; rfl) | exact .inl rfl | exact .inr rfl | assumption)) (@pss_one _ _ _ (@ps_ret _ _ _ _ (@pe_tup _ _ _ _ _ (@pa_cons _ _ _ _ _ (@pe_ix _ _ _ _ _ _ _ ix_list (pv 1) (@pe_op _ _ _ _ _ _ _ _ op_mul (@pe_callF _ _ _ _ _ _ _ _ _ _ g_law_draw (hr.mono (by omega)) rfl (@pa_cons _ _ _ _ _ (pv 0) (@pa_cons _ _ _ _ _ (@pe_callB _ _ _ _ _ _ _ _ _ call_len_seq rfl m.len b_len (@pa_cons _ _ _ _ _ (pv 1) pa_nil rfl) (by decide) (by decide) rfl rfl) pa_nil rfl) rfl) (by decide) rfl rfl) (@pe_callTy _ _ _ _ _ _ _ _ _ call_int1 rfl m.int b_int (@pa_cons _ _ _ _ _ (@pe_cmpR _ _ _ _ _ _ _ _ op_eq (@pe_callF _ _ _ _ _ _ _ _ _ _ g_law_draw (hr.mono (by omega)) rfl (@pa_cons _ _ _ _ _ (pv 0) (@pa_cons _ _ _ _ _ pe_int pa_nil rfl) rfl) (by decide) rfl rfl) pe_int (nomark _)) pa_nil rfl) (by first | rfl | decide | (intro _; rfl) | exact .inl rfl | exact .inr rfl | assumption) (by first | rfl | decide | (intro _; rfl) | exact .inl rfl | exact .inr rfl | assumption) (by first | rfl | decide | (intro _; rfl) | exact .inl rfl | exact .inr rfl | assumption) (by first | rfl | decide | (intro _; rfl) | exact .inl rfl | exact .inr rfl | assumption))) (fun _ _ =>  rfl)) (@pa_cons _ _ _ _ _ (pv 2) pa_nil rfl) rfl))))))))), ?_⟩
  refine ⟨_, rfl, _, rfl, l, 5, r + 399, rfl, fe, by decide, by decide, fun x H1 x0 x1 t1 => ?_⟩
  obtain ⟨xn, rfl⟩ : ∃ n : Nat, x = n := ⟨x.toNat, by omega⟩
  refine ⟨_, _, rfl, rfl, l, 2 + xn, r + 397, by rw [Int.natCast_add]; rfl, t1.feed, by omega, fun C cs H2 hC nC okC t2 => ?_⟩
  have t02 := t1.trans t2
  have nC0 : H C = none := t1.free nC
  have nCl : C ≠ l := fe.ne nC0
  refine fun S hS => ?_
  have nS : H S = none := t02.free hS
  have nSl : S ≠ l := fe.ne nS
  have nCS : C ≠ S := ne_of_none hC hS
  have k3 : Mk K l C S H cs (fun t => GoodS t ∧ PC t) (r + 397) 0 (upd H2 S (.dK [])) :=
    ⟨t02.lay hS, by rw [upd_ne nCS]; exact hC, [], upd_same, Nat.le_refl _, fun j v e => by cases e⟩
  refine ⟨_, rfl, _, rfl, C, _, rfl, SqL.of k3.c, fun L hL => ?_⟩
  have cut : cutV (cs.map V.str) (some 1) none = (cs.drop 1).map V.str := by
    rw [List.map_drop]
    unfold cutV
    have e2 : HT.sIx (cs.map V.str).length (cs.map V.str).length none = (cs.map V.str).length := rfl
    have e1 : HT.sIx (cs.map V.str).length 0 (some 1) = min 1 (cs.map V.str).length := by simp [HT.sIx]
    rw [e1, e2]
    generalize cs.map V.str = zs
    cases zs with
    | nil => rfl
    | cons x r => simp
  rw [cut]
  have c6 : cs.length ≤ 6 := by rw [okC.len]; omega
  have c2 : 2 ≤ cs.length := by rw [okC.len]; omega
  have k4 := k3.same (Same.lay (o := .lst ((cs.drop 1).map V.str)) hL)
  have nL0 : H L = none := k3.st.free hL
  have nLl : L ≠ l := fe.ne nL0
  have nLS : L ≠ S := fun z => by rw [z, upd_same] at hL; cases hL
  refine ⟨L, rfl, ⟨_, SqL.of upd_same⟩, ?_⟩
  refine for_list (K := K) (xs := (cs.drop 1).map V.str) (fun i σ H5 => (∃ o3 o4 o5 o6 o7 o8, σ = [some (.ref l), some (.ref C), some (.ref S), o3, o4, o5, o6, o7, o8]) ∧ Mk K l C S H cs (fun t => GoodS t ∧ PC t) (r + 200 + 31 * (5 - i)) i H5 ∧ H5 L = some (.lst ((cs.drop 1).map V.str)))
    ⟨⟨_, _, _, _, _, _, rfl⟩, k4.mono (by omega) (Nat.le_refl _) (fun _ h => h), upd_same⟩ ?_ ?_ ?_
  · rintro i σ H5 hi ⟨_, _, h5⟩
    exact SqL.of h5
  · rintro i x σ H5 hx ⟨⟨o3, o4, o5, o6, o7, o8, rfl⟩, k5, h5L⟩
    rw [List.getElem?_map] at hx
    obtain ⟨nm, en, rfl⟩ := Option.map_eq_some_iff.mp hx
    have hi : i < (cs.drop 1).length := (List.getElem?_eq_some_iff.mp en).1
    rw [List.length_drop] at hi
    refine ⟨_, rfl, l, 6, r + 200 + 31 * (5 - (i + 1)) + 30, rfl, k5.st.feed.mono (by omega), by decide, by decide, fun y H6 y0 y1 t6 => ?_⟩
    have k6 := k5.step t6 nCl nSl
    have h6L := t6.keep _ _ nLl h5L
    refine ⟨_, rfl, _, _, rfl, rfl, _, rfl, ?_⟩
    refine ite2 (fun ca => ?_) (fun ca => ?_)
    · refine ⟨_, rfl, _, rfl, l, C, cs, r + 200 + 31 * (5 - (i + 1)) + 27, rfl, k6.c, okC.mem, by omega, by omega, k6.st.feed, fun v t H7 it pt t7 => ?_⟩
      have k7 := k6.step t7 nCl nSl
      obtain ⟨Hb, pu, kb, sb, ub⟩ := k7.put (j := .inr nm) fe nS nCS it ⟨plain_good pt, .inl pt⟩ (Nat.lt_of_le_of_lt (show i ≤ 8 by omega) (by decide))
      refine ⟨_, rfl, _, rfl, S, Hb, rfl, pu, ⟨_, _, _, _, _, _, rfl⟩, kb.mono (by omega) (Nat.le_refl _) (fun _ h => h), (sb L nLS).trans (t7.keep _ _ nLl h6L)⟩
    · refine ⟨_, rfl, rfl, _, rfl, ?_⟩
      refine ite2 (fun cb => ?_) (fun cb => ?_)
      · refine ⟨_, rfl, _, rfl, fun d0 hd0 => ?_⟩
        have s7 := Same.lay (o := .dK []) hd0
        have k7 := k6.same s7
        refine ⟨l, C, d0, cs, r + 200 + 31 * (5 - (i + 1)) + 5, rfl, k7.c, okC.mem, by omega, by omega, ⟨[], upd_same, fun _ _ e => by cases e⟩, k7.st.feed, fun v fs H8 iv okp t8 => ?_⟩
        have k8 := k7.step t8 nCl nSl
        have h8L := t8.keep _ _ nLl (s7 _ _ h6L)
        obtain ⟨pp, ws, rfl, hpp, afs⟩ := iv
        have lf : fs.length ≤ 1000000 := Nat.le_trans okp.len (by decide)
        refine ⟨pp, rfl, ⟨_, hpp⟩, fun D fp sx hD => ?_⟩
        refine compT_tup (f := armOf) hpp afs lf hD (fun t v H5 Q5 mt s5 i5 q5 => ?_) fun H9 w9 s9 h9 a9 => ?_
        · obtain ⟨n, x, y, d, rfl, _⟩ := okp.form t mt
          obtain ⟨a, xs, rfl, ha, ax⟩ := i5
          obtain ⟨v1, v2, v3, v4, rfl, j1, j2, j3, j4⟩ := are4 ax
          refine ⟨_, rfl, _, rfl, a, _, rfl, ha, fun p' H' s' h' => ?_⟩
          exact q5 (.ref p') H' s' ⟨p', _, rfl, h', _, _, rfl, IsTh.up s'.upT _ _ j1, _, _, rfl, IsTh.up s'.upT _ _ j2, _, _, rfl, IsTh.up s'.upT _ _ j3, rfl⟩
        have k9 := k8.same s9
        have h9L := s9 _ _ h8L
        have hDf : H D = none := k8.st.free hD
        have nDl : D ≠ l := fe.ne hDf
        refine ⟨_, rfl, _, rfl, D, rfl, ⟨_, SqL.of h9⟩, fun D2 fp2 sx2 hD2 => ?_⟩
        refine compT_list (f := numTh) (SqL.of h9) a9 (by rw [List.length_map]; exact lf) hD2 (fun t v H5 Q5 mt s5 i5 q5 => ?_) fun H10 w10 s10 h10 a10 => ?_
        · obtain ⟨g, mg, rfl⟩ := List.mem_map.mp mt
          obtain ⟨n, x, y, d, rfl, _⟩ := okp.form g mg
          obtain ⟨a, xs, rfl, ha, y1, ys, rfl, iy, _⟩ := i5
          exact ⟨_, rfl, a, _, _, _, rfl, rfl, ha, at0, q5 y1 H5 (Same.refl H5) iy⟩
        have k10 := k9.same s10
        have h10L := s10 _ _ h9L
        rw [arms_nums okp.form] at a10
        have ew := are_ints a10
        subst ew
        refine ⟨l, D2, _, r + 200 + 31 * (5 - (i + 1)) + 1, rfl, h10, k10.st.feed.mono (by omega), fun qs us H11 hqs sbu nou t11 => ?_⟩
        have k11 := k10.step t11 nCl nSl
        have h11L := t11.keep _ _ nLl h10L
        have h11D := t11.keep _ _ nDl (s10 _ _ h9)
        have u911 := s10.upT.trans (t11.upT (K := K) k10.st.feed)
        refine ⟨_, rfl, D, _, rfl, .inl ⟨SqL.of h11D, fun e12 h12 => ?_⟩⟩
        have s12 := Same.lay (o := .tup w9) h12
        have k12 := k11.same s12
        refine ⟨_, rfl, _, rfl, l, 2, r + 200 + 31 * (5 - (i + 1)), rfl, k12.st.feed, by decide, by decide, fun z H13 z0 z1 t13 => ⟨rfl, (by show 4 ≤ sizeLine; decide), fun e14 h14 => ?_⟩⟩
        have s14 := Same.lay (o := .tup [.str "choice", .ref e12, .ref qs, .bl (decide (V.int z = V.int 0))]) h14
        have k13 := k12.step t13 nCl nSl
        have k14 := k13.same s14
        have u12 : UpT K _ _ := (t13.upT (K := K) k12.st.feed).trans s14.upT
        have it : IsTh K _ (.tup [.str "choice", .tup (fs.map armOf), .tup (us.map Th.int), .bl (decide (V.int z = V.int 0))]) (.ref e14) :=
          ⟨e14, _, rfl, SqT.of upd_same, _, _, rfl, rfl, _, _, rfl, ⟨e12, w9, rfl, u12.tup _ _ (SqT.of upd_same), AreTh.up (u911.trans (s12.upT.trans u12)) _ _ a9⟩, _, _, rfl, ⟨qs, _, rfl, (s12.upT.trans u12).tup _ _ hqs, of_ints us⟩, _, _, rfl, rfl, rfl⟩
        obtain ⟨Hb, pu, kb, sb, ub⟩ := k14.put (j := .inr nm) fe nS nCS it ⟨cho_good okp sbu nou, .inr ⟨_, rfl⟩⟩ (Nat.lt_of_le_of_lt (show i ≤ 8 by omega) (by decide))
        refine ⟨_, rfl, _, rfl, S, Hb, rfl, pu, ⟨_, _, _, _, _, _, rfl⟩, kb.mono (Nat.le_refl _) (Nat.le_refl _) (fun _ h => h), (sb L nLS).trans (s14 _ _ (t13.keep _ _ nLl (s12 _ _ h11L)))⟩
      · exact ⟨⟨_, _, _, _, _, _, rfl⟩, k6.mono (by omega) (by omega) (fun _ h => h), h6L⟩
  · rintro σ H5 ⟨⟨o3, o4, o5, o6, o7, o8, rfl⟩, k5, h5L⟩
    have n5 : ((cs.drop 1).map V.str).length ≤ 5 := by rw [List.length_map, List.length_drop]; omega
    have k5 := k5.mono (r' := r + 200) (n' := 5) (q' := fun t => GoodS t ∧ PC t) (by omega) n5 (fun _ h => h)
    obtain ⟨kvs, eS, z5, g5⟩ := k5.d
    refine ⟨_, rfl, S, kvs, rfl, .inl eS, fun B hB => ?_⟩
    have s6 := Same.lay (o := .dK kvs) hB
    have k6 := k5.same s6
    have nB : H B = none := k5.st.free hB
    have nBl : B ≠ l := fe.ne nB
    have nBS : B ≠ S := fun z => by rw [z, eS] at hB; cases hB
    have d6 : DicP K (upd H5 B (.dK kvs)) B := ⟨kvs, upd_same, fun k v e => by
      obtain ⟨t, it, ct⟩ := g5 k v e
      exact ⟨t, IsTh.up s6.upT _ _ it, ct.2⟩⟩
    refine ⟨_, rfl, C, rfl, ⟨_, SqL.of k6.c⟩, ?_⟩
    refine for_list (K := K) (xs := cs.map V.str) (fun i σ H5 => (∃ o3 o4 o5 o6 o8, σ = [some (.ref l), some (.ref C), some (.ref S), o3, o4, o5, o6, some (.ref B), o8]) ∧ Mk K l C S H cs GoodS (r + 2 + 29 * (6 - i)) (5 + i) H5 ∧ DicP K H5 B)
      ⟨⟨_, _, _, _, _, rfl⟩, k6.mono (by omega) (Nat.le_refl _) (fun _ h => h.1), d6⟩ ?_ ?_ ?_
    · rintro i σ H5 hi ⟨_, k, _⟩
      exact SqL.of k.c
    · rintro i x σ H7 hx ⟨⟨o3, o4, o5, o6, o8, rfl⟩, k7, d7⟩
      rw [List.getElem?_map] at hx
      obtain ⟨nm, en, rfl⟩ := Option.map_eq_some_iff.mp hx
      have hi : i < cs.length := (List.getElem?_eq_some_iff.mp en).1
      obtain ⟨kvs7, e7, z7, g7⟩ := k7.d
      refine ⟨_, rfl, _, rfl, S, _, rfl, DGet.k (k := .inr nm) e7, _, rfl, ?_⟩
      refine ite2 (fun ca => ?_) (fun ca => ?_)
      · refine ⟨_, rfl, _, rfl, _, rfl, l, C, B, cs, r + 2 + 29 * (6 - (i + 1)) + 4, rfl, k7.c, okC.mem, by omega, by omega, d7, k7.st.feed.mono (by omega), fun v fs H8 iv okp t8 => ?_⟩
        have k8 := k7.step t8 nCl nSl
        have d8 := d7.up (t8.upT (K := K) k7.st.feed)
        obtain ⟨pp, ws, rfl, hpp, afs⟩ := iv
        have lf : fs.length ≤ 1000000 := Nat.le_trans okp.len (by decide)
        refine ⟨_, rfl, _, rfl, _, rfl, pp, rfl, ⟨_, hpp⟩, fun D fp sx hD => ?_⟩
        refine compT_tup (f := numTh) hpp afs lf hD (fun t v H5 Q5 mt s5 i5 q5 => ?_) fun H9 w9 s9 h9 a9 => ?_
        · obtain ⟨n, x, y, d, rfl, _⟩ := okp.form t mt
          obtain ⟨a, xs, rfl, ha, y1, ys, rfl, iy, _⟩ := i5
          exact ⟨_, rfl, a, _, _, _, rfl, rfl, ha, at0, q5 y1 H5 (Same.refl H5) iy⟩
        have k9 := k8.same s9
        have d9 := d8.up s9.upT
        rw [recs_nums okp.form] at a9
        have ew := are_ints a9
        subst ew
        refine ⟨l, D, _, r + 2 + 29 * (6 - (i + 1)), rfl, h9, k9.st.feed, fun qs us H11 hqs sbu nou t11 => ⟨(by show 3 ≤ sizeLine; decide), fun e12 h12 => ?_⟩⟩
        have k11 := k9.step t11 nCl nSl
        have s12 := Same.lay (o := .tup [.str "record", .ref pp, .ref qs]) h12
        have k12 := k11.same s12
        have u911 := t11.upT (K := K) k9.st.feed
        have d12 := d9.up (u911.trans s12.upT)
        have u8 := s9.upT.trans (u911.trans s12.upT)
        have it : IsTh K _ (.tup [.str "record", .tup fs, .tup (us.map Th.int)]) (.ref e12) :=
          ⟨e12, _, rfl, SqT.of upd_same, _, _, rfl, rfl, _, _, rfl, ⟨pp, ws, rfl, u8.tup _ _ hpp, AreTh.up u8 _ _ afs⟩, _, _, rfl, ⟨qs, _, rfl, s12.up _ _ hqs, of_ints us⟩, rfl⟩
        obtain ⟨Hb, pu, kb, sb, ub⟩ := k12.put (j := .inr nm) fe nS nCS it (rec_good okp sbu nou) (Nat.lt_of_le_of_lt (show 5 + i ≤ 20 by omega) (by decide))
        refine ⟨_, rfl, _, rfl, S, Hb, rfl, pu, ⟨_, _, _, _, _, rfl⟩, kb.mono (Nat.le_refl _) (by omega) (fun _ h => h), ?_⟩
        obtain ⟨kB, eB, gB⟩ := d12
        exact ⟨kB, (sb B nBS).trans eB, fun k v e => let ⟨t, i, c⟩ := gB k v e; ⟨t, isTh_upO ub t v i, c⟩⟩
      · exact ⟨⟨_, _, _, _, _, rfl⟩, k7.mono (by omega) (by omega) (fun _ h => h), d7⟩
    · rintro σ H7 ⟨⟨o3, o4, o5, o6, o8, rfl⟩, k7, d7⟩
      have n6 : (cs.map V.str).length ≤ 6 := by rw [List.length_map]; exact c6
      have k7 := k7.mono (r' := r + 2) (n' := 20) (q' := GoodS) (by omega) (by omega) (fun _ h => h)
      refine ⟨_, rfl, _, rfl, _, rfl, C, _, rfl, .inl (SqL.of k7.c), l, _, r + 1, rfl, k7.st.feed, ?_, ?_, fun y H8 y0 y1 t8 => ?_⟩
      · rw [List.length_map]; omega
      · rw [List.length_map]; omega
      have k8 := k7.step t8 nCl nSl
      refine ⟨_, rfl, l, 3, r, rfl, k8.st.feed, by decide, by decide, fun z H9 z0 z1 t9 => ⟨rfl, .inr ⟨_, rfl, ?_⟩⟩⟩
      have k9 := k8.step t9 nCl nSl
      refine ⟨_, _, rfl, rfl, .inr ⟨by split <;> decide, by split <;> decide⟩, ?_⟩
      obtain ⟨nm, mn, enm⟩ := pickS cs (r := y * (if decide (V.int z = V.int 0) = true then (1 : Int) else 0)) (by split <;> omega) (by rw [List.length_map] at y1; split <;> omega)
      refine ⟨C, _, _, _, rfl, rfl, SqL.of k9.c, enm, _, rfl, (by show 2 ≤ sizeLine; decide), fun e he => ?_⟩
      have kE := k9.same (Same.lay (o := .tup [.str nm, .ref S]) he)
      obtain ⟨kvE, eE, zE, gE⟩ := kE.d
      exact q e S (.str nm) kvE _ (SqT.of upd_same) eE nS zE gE kE.st
end
end K19
namespace K19
open PySem PySem.Spec PyProof.Rows L2 K01
abbrev s_law_asked : Stmt := top 40
abbrev N_law_asked : List Str := ["_law_thing", "_law_due", "_law_found"]
theorem sc_law_asked : FnScope N_law_asked ["_law_thing", "_law_due"] (defScope s_law_asked) := ⟨rfl, rfl, rfl, by decide +kernel, rfl, by decide +kernel, by decide +kernel⟩
abbrev s_law_many : Stmt := top 41
abbrev N_law_many : List Str := ["_law_many_here", "_law_arms", "_law_letters", "_law_parts_here", "_law_struck_here"]
theorem sc_law_many : FnScope N_law_many ["_law_many_here", "_law_arms"] (defScope s_law_many) := ⟨rfl, rfl, rfl, by decide +kernel, rfl, by decide +kernel, by decide +kernel⟩
def spAsked (K : PySem.W.Frag) : Sp := fun vs H Q _ => ∃ v t b, vs = [v, .bl b] ∧ IsTh K H t v ∧ gdT t ∧ ∀ H', Same H H' → Q (.bl (decide (V.bl (shapeTh t) = V.bl b))) H'
def LETS : Str := "abcdefghijklmnop"
def mp (n : Nat) : List Th := (List.range n).map fun (k : Nat) => .tup [.int (10 * (k : Int) + 1), .str ⟨#[97 + k]⟩, .str "a", .tup []]
def ms (n : Nat) : List Th := (List.range n).map fun (k : Nat) => .int (10 * (k : Int) + 2)
theorem mp_succ (i : Nat) : mp (i + 1) = mp i ++ [.tup [.int (10 * (i : Int) + 1), .str ⟨#[97 + i]⟩, .str "a", .tup []]] := by unfold mp; rw [List.range_succ, List.map_append]; rfl
theorem ms_succ (i : Nat) : ms (i + 1) = ms i ++ [.int (10 * (i : Int) + 2)] := by unfold ms; rw [List.range_succ, List.map_append]; rfl
theorem mp_len (n : Nat) : (mp n).length = n := by unfold mp; rw [List.length_map, List.length_range]
theorem ms_len (n : Nat) : (ms n).length = n := by unfold ms; rw [List.length_map, List.length_range]
theorem lets_at : ∀ i < 16, LETS.cps.toList[i]? = some (97 + i) := by decide +kernel
def spMany (K : PySem.W.Frag) : Sp := fun vs H Q _ => ∃ (n : Nat) (b : Bool), vs = [.int n, .bl b] ∧ n ≤ 9 ∧ ∀ (e : Addr) (v1 v2 : V) (H' : Hp), SqT K H' e [v1, v2] → IsTh K H' (.tup (if b = true then (mp n).map armOf else mp n)) v1 → IsTh K H' (.tup (ms n)) v2 → Same H H' → Q (.ref e) H'
section
variable {P : Program} {w : World} {K : PySem.W.Frag} {mg : Str → Option Value} {base : Heap} {f : Addr} {fd : FuncData}
theorem ok_asked (F : Fun K "_law_asked" "_law_asked" s_law_asked f fd) (m : Bn mg) (g_is_shape : Fn P w K mg base 6 "is_shape" ["thing"] (spB1 K shapeTh)) : FnOk P w K mg base CX0 7 f fd ["_law_thing", "_law_due"] (spAsked K) := by
  refine F.ok sc_law_asked (fun vs H Q E h => ?_) (fun cdv A outer s H vs Q E hr h => ?_)
  · obtain ⟨v, t, b, rfl, _⟩ := h
    rfl
  obtain ⟨v, t, b, rfl, ht, gd, q⟩ := h
  refine ⟨_, (@pss_cons _ _ _ _ _ (@ps_setI _ 2 _ _ _ _ _ sc_law_asked.nd rfl (by first | exact Or.inl rfl | exact Or.inr rfl) (@pe_callF _ _ _ _ _ _ _ _ _ _ g_is_shape (hr.mono (by omega)) rfl (@pa_cons _ _ _ _ _ (pv 0) pa_nil rfl) (by decide) rfl rfl) rfl (by first | exact .inl rfl | exact .inr rfl)) (@pss_one _ _ _ (@ps_ret _ _ _ _ (@pe_and _ _ _ _ _ _ _ (@pe_callB _ _ _ _ _ _ _ _ _ call_isiTh rfl m.isinstance b_isinstance (@pa_cons _ _ _ _ _ (pv 2) (@pa_cons _ _ _ _ _ (@pe_bltnT _ _ _ _ rfl m.bool b_bool (by decide) (by decide)) pa_nil rfl) rfl) (by decide) (by decide) rfl rfl) (@pe_one _ _ _ _ _ (@pe_cmpR _ _ _ _ _ _ _ _ op_eq (pv 2) (pv 1) (nomark _))))))), ?_⟩
  refine ⟨_, rfl, v, t, rfl, ht, gd, fun H1 s1 => ?_⟩
  exact ⟨_, rfl, _, _, .bl (shapeTh t), rfl, rfl, (by simp), _, rfl, iteY rfl ⟨_, rfl, _, rfl, rfl, q H1 s1⟩⟩
theorem ok_many (F : Fun K "_law_many" "_law_many" s_law_many f fd) (m : Bn mg) : FnOk P w K mg base CX0 1 f fd ["_law_many_here", "_law_arms"] (spMany K) := by
  refine F.ok sc_law_many (fun vs H Q E h => ?_) (fun cdv A outer s H vs Q E hr h => ?_)
  · obtain ⟨n, b, rfl, _⟩ := h
    rfl
  obtain ⟨n, b, rfl, n9, q⟩ := h
  refine ⟨_, (@pss_cons _ _ _ _ _ (@ps_setI _ 2 _ _ _ _ _ sc_law_many.nd rfl (by first | exact Or.inl rfl | exact Or.inr rfl) pe_str rfl (by first | exact .inl rfl | exact .inr rfl)) (@pss_cons _ _ _ _ _ (@ps_setCompI _ 3 N_law_many (defScope s_law_many) ["_law_k", "_law_letters"] [none, some 2] _ _ _ _ _ _ _ _ _ _ _ _ _ sc_law_many.nd rfl (by first | exact Or.inl rfl | exact Or.inr rfl) rfl (@pi_range1 _ _ _ _ _ _ rfl m.range (@pa_cons _ _ _ _ _ (pv 0) pa_nil rfl) (by first | rfl | decide | (intro _; rfl) | exact .inl rfl | exact .inr rfl | assumption)) ⟨rfl, rfl, by decide +kernel, by decide +kernel⟩ (fun _ _ _ =>  (@pg_nameI _ 0 _ _ (show List.Nodup (["_law_k", "_law_letters"] : List Str) from by decide +kernel) rfl (Or.inl rfl) (by first | exact .inl rfl | exact .inr rfl))) (fun _ _ _ =>  pts_nil) (fun _ _ _ =>  (@pe_tup _ _ _ _ _ (@pa_cons _ _ _ _ _ (@pe_op _ _ _ _ _ _ _ _ op_add (@pe_op _ _ _ _ _ _ _ _ op_mul pe_int (pv 0)) pe_int) (@pa_cons _ _ _ _ _ (@pe_ix _ _ _ _ _ _ _ ix_str (pv 1) (pv 0) (fun _ _ =>  rfl)) (@pa_cons _ _ _ _ _ pe_str (@pa_cons _ _ _ _ _ (@pe_tup _ _ _ _ _ pa_nil) pa_nil rfl) rfl) rfl) rfl))) (by first | rfl | decide | (intro _; rfl) | exact .inl rfl | exact .inr rfl | assumption) (by first | rfl | decide | (intro _; rfl) | exact .inl rfl | exact .inr rfl | assumption) (by first | rfl | decide | (intro _; rfl) | exact .inl rfl | exact .inr rfl | assumption)) (@pss_cons _ _ _ _ _ (@ps_setI _ 4 _ _ _ _ _ sc_law_many.nd rfl (by first | exact Or.inl rfl | exact Or.inr rfl) (@pe_callTy _ _ _ _ _ _ _ _ _ call_tuple_of rfl m.tuple b_tuple (@pa_cons _ _ _ _ _ (@pe_compI _ N_law_many (defScope s_law_many) ["_law_k"] [none] _ _ _ _ _ _ _ _ _ _ rfl (@pi_range1 _ _ _ _ _ _ rfl m.range (@pa_cons _ _ _ _ _ (pv 0) pa_nil rfl) (by first | rfl | decide | (intro _; rfl) | exact .inl rfl | exact .inr rfl | assumption)) ⟨rfl, rfl, by decide +kernel, by decide +kernel⟩ (fun _ _ _ =>  (@pg_nameI _ 0 _ _ (show List.Nodup (["_law_k"] : List Str) from by decide +kernel) rfl (Or.inl rfl) (by first | exact .inl rfl | exact .inr rfl))) (fun _ _ _ =>  pts_nil) (fun _ _ _ =>  (@pe_op _ _ _ _ _ _ _ _ op_add (@pe_op _ _ _ _ _ _ _ _ op_mul pe_int (pv 0)) pe_int)) (by first | rfl | decide | (intro _; rfl) | exact .inl rfl | exact .inr rfl | assumption)) pa_nil rfl) (by first | rfl | decide | (intro _; rfl) | exact .inl rfl | exact .inr rfl | assumption) (by first | rfl | decide | (intro _; rfl) | exact .inl rfl | exact .inr rfl | assumption) (by first | rfl | decide | (intro _; rfl) | exact .inl rfl | exact .inr rfl | assumption) (by first | rfl | decide | (intro _; rfl) | exact .inl rfl | exact .inr rfl | assumption)) rfl (by first | exact .inl rfl | exact .inr rfl)) (@pss_cons _ _ _ _ _ (@ps_if _ _ _ _ _ _ _ _ (@pt_truth _ _ _ (pv 1) (fun _ =>  rfl)) (@pss_one _ _ _ (@ps_setCompI _ 3 N_law_many (defScope s_law_many) ["_law_part"] [none] _ _ _ _ _ _ _ _ _ _ _ _ _ sc_law_many.nd rfl (by first | exact Or.inl rfl | exact Or.inr rfl) rfl (@pi_list _ _ _ _ (pv 3)) ⟨rfl, rfl, by decide +kernel, by decide +kernel⟩ (fun _ _ _ =>  (@pg_nameI _ 0 _ _ (show List.Nodup (["_law_part"] : List Str) from by decide +kernel) rfl (Or.inl rfl) (by first | exact .inl rfl | exact .inr rfl))) (fun _ _ _ =>  pts_nil) (fun _ _ _ =>  (@pe_slice _ _ _ _ _ _ _ _ _ _ sl_tupG (pv 0) (@po_none _) (@po_some _ _ _ pe_int))) (by first | rfl | decide | (intro _; rfl) | exact .inl rfl | exact .inr rfl | assumption) (by first | rfl | decide | (intro _; rfl) | exact .inl rfl | exact .inr rfl | assumption) (by first | rfl | decide | (intro _; rfl) | exact .inl rfl | exact .inr rfl | assumption))) pss_nil) (@pss_one _ _ _ (@ps_ret _ _ _ _ (@pe_tup _ _ _ _ _ (@pa_cons _ _ _ _ _ (@pe_callTy _ _ _ _ _ _ _ _ _ call_tuple_of rfl m.tuple b_tuple (@pa_cons _ _ _ _ _ (pv 3) pa_nil rfl) (by first | rfl | decide | (intro _; rfl) | exact .inl rfl | exact .inr rfl | assumption) (by first | rfl | decide | (intro _; rfl) | exact .inl rfl | exact .inr rfl | assumption) (by first | rfl | decide | (intro _; rfl) | exact .inl rfl | exact .inr rfl | assumption) (by first | rfl | decide | (intro _; rfl) | exact .inl rfl | exact .inr rfl | assumption)) (@pa_cons _ _ _ _ _ (pv 4) pa_nil rfl) rfl)))))))), ?_⟩
  refine ⟨_, rfl, _, rfl, by omega, by omega, fun D fp sx hD => ?_⟩
  have en : ((n : Nat) : Int).toNat = n := by omega
  refine comp_range (fun i ys σ H5 => (∃ o, σ = [o, some (.str LETS)]) ∧ AreTh K H5 (mp i) ys ∧ Same H H5 ∧ H5 D = some (.lst ys)) ⟨⟨_, rfl⟩, rfl, (Same.refl H).put hD, upd_same⟩ ?_ ?_ ?_
  · rintro i ys σ H5 hi ⟨_, _, s5, h5⟩
    exact h5
  · rintro i ys σ H5 hi ⟨⟨o, rfl⟩, ar, s5, h5⟩
    have hi : i < ((n : Nat) : Int).toNat := hi
    have ec : atI LETS.cps.toList (0 + (i : Int)) = some (97 + i) := by
      rw [Int.zero_add]
      exact atI_nat (lets_at i (by omega))
    refine goAlways ?_
    refine ⟨_, rfl, _, _, rfl, rfl, .inl ⟨by decide, by decide⟩, _, _, rfl, rfl, _, rfl, _, rfl, LETS, _, _, rfl, rfl, by decide +kernel, ec, (by show 0 ≤ sizeLine; decide), fun e1 h1 => ⟨(by show 4 ≤ sizeLine; decide), fun e2 h2 => ?_⟩⟩
    have s6 := Same.lay (o := .tup []) h1
    have s7 := Same.lay (o := .tup [.int (10 * (0 + (i : Int)) + 1), .str ⟨#[97 + i]⟩, .str "a", .ref e1]) h2
    have s67 := s6.trans s7
    refine ⟨s67 _ _ h5, ?_, ⟨_, rfl⟩, ?_, (s5.trans s67).put hD, upd_same⟩
    · rw [← ar.length, mp_len]; exact Nat.lt_of_le_of_lt (show i ≤ 9 by omega) (by decide)
    · rw [mp_succ]
      have u8 : UpT K _ (upd _ D (.lst (ys ++ [.ref e2]))) := upT_set (s67 _ _ h5)
      refine AreTh.append (AreTh.up (s67.upT.trans u8) _ _ ar) (AreTh.one (IsTh.up u8 _ _ ⟨e2, _, rfl, SqT.of upd_same, _, _, rfl, ?_, _, _, rfl, rfl, _, _, rfl, rfl, _, _, rfl, ⟨e1, _, rfl, s7.up _ _ (SqT.of upd_same), rfl⟩, rfl⟩))
      show V.int (10 * (0 + (i : Int)) + 1) = V.int (10 * (i : Int) + 1)
      rw [Int.zero_add]
  · rintro ys σ H5 ⟨_, ar, s5, h5⟩
    have ar : AreTh K H5 (mp ((n : Nat) : Int).toNat) ys := ar
    rw [en] at ar
    refine ⟨_, rfl, _, rfl, by omega, by omega, fun D2 fp2 sx2 hD2 => ?_⟩
    refine comp_range (fun i zs σ H6 => (∃ o, σ = [o]) ∧ AreTh K H6 (ms i) zs ∧ Same H5 H6 ∧ H6 D2 = some (.lst zs)) ⟨⟨_, rfl⟩, rfl, (Same.refl H5).put hD2, upd_same⟩ ?_ ?_ ?_
    · rintro i zs σ H6 hi ⟨_, _, s6, h6⟩
      exact h6
    · rintro i zs σ H6 hi ⟨⟨o, rfl⟩, ar6, s6, h6⟩
      have hi : i < ((n : Nat) : Int).toNat := hi
      refine goAlways ?_
      refine ⟨_, rfl, _, _, rfl, rfl, .inl ⟨by decide, by decide⟩, _, _, rfl, rfl, h6, ?_, ⟨_, rfl⟩, ?_, s6.put hD2, upd_same⟩
      · rw [← ar6.length, ms_len]; exact Nat.lt_of_le_of_lt (show i ≤ 9 by omega) (by decide)
      · rw [ms_succ]
        refine AreTh.append (AreTh.up (upT_set h6) _ _ ar6) (AreTh.one ?_)
        show V.int (10 * (0 + (i : Int)) + 2) = V.int (10 * (i : Int) + 2)
        rw [Int.zero_add]
    · rintro zs σ H6 ⟨_, ar6, s6, h6⟩
      have ar6 : AreTh K H6 (ms ((n : Nat) : Int).toNat) zs := ar6
      rw [en] at ar6
      refine ⟨D2, _, rfl, .inl ⟨SqL.of h6, fun e7 h7 => ?_⟩⟩
      have s7 := Same.lay (o := .tup zs) h7
      have s57 := s6.trans s7
      have i7 : IsTh K (upd H6 e7 (.tup zs)) (.tup (ms n)) (.ref e7) := ⟨e7, zs, rfl, SqT.of upd_same, AreTh.up s7.upT _ _ ar6⟩
      have ar7 := AreTh.up s57.upT _ _ ar
      have h7D := s57 _ _ h5
      refine ⟨_, rfl, _, rfl, ?_⟩
      cases b with
      | false =>
        refine iteF ⟨_, rfl, D, _, rfl, .inl ⟨SqL.of h7D, fun e8 h8 => ?_⟩⟩
        have s8 := Same.lay (o := .tup ys) h8
        refine ⟨_, rfl, (by show 2 ≤ sizeLine; decide), fun e9 h9 => ?_⟩
        have s9 := Same.lay (o := .tup [.ref e8, .ref e7]) h9
        exact q e9 _ _ _ (SqT.of upd_same) ⟨e8, ys, rfl, s9.up _ _ (SqT.of upd_same), AreTh.up (s8.trans s9).upT _ _ ar7⟩ (IsTh.up (s8.trans s9).upT _ _ i7) ((s5.trans s57).trans (s8.trans s9))
      | true =>
        refine iteT ⟨_, rfl, D, rfl, ⟨_, SqL.of h7D⟩, fun D3 fp3 sx3 hD3 => ?_⟩
        refine compT_list (f := armOf) (SqL.of h7D) ar7 (by rw [mp_len]; omega) hD3 (fun t v H8 Q8 mt s8 i8 q8 => ?_) fun H9 w9 s9 h9 a9 => ?_
        · obtain ⟨k, _, rfl⟩ := List.mem_map.mp (show t ∈ mp n from mt)
          obtain ⟨a, xs, rfl, ha, ax⟩ := i8
          obtain ⟨v1, v2, v3, v4, rfl, j1, j2, j3, j4⟩ := are4 ax
          refine ⟨_, rfl, _, rfl, a, _, rfl, ha, fun p' H' s' h' => ?_⟩
          exact q8 (.ref p') H' s' ⟨p', _, rfl, h', _, _, rfl, IsTh.up s'.upT _ _ j1, _, _, rfl, IsTh.up s'.upT _ _ j2, _, _, rfl, IsTh.up s'.upT _ _ j3, rfl⟩
        refine ⟨_, rfl, D3, _, rfl, .inl ⟨SqL.of h9, fun e8 h8 => ?_⟩⟩
        have s8 := Same.lay (o := .tup w9) h8
        refine ⟨_, rfl, (by show 2 ≤ sizeLine; decide), fun e9 hE => ?_⟩
        have sE := Same.lay (o := .tup [.ref e8, .ref e7]) hE
        exact q e9 _ _ _ (SqT.of upd_same) ⟨e8, w9, rfl, sE.up _ _ (SqT.of upd_same), AreTh.up (s8.trans sE).upT _ _ a9⟩ (IsTh.up (s9.trans (s8.trans sE)).upT _ _ i7) ((s5.trans s57).trans (s9.trans (s8.trans sE)))
end
end K19
namespace K19
open PySem PySem.Spec PyProof.Rows L2 K01
abbrev s_law : Stmt := top 42
abbrev N_law : List Str := ["_law_script", "_law_feed_here", "_law_shapes", "_law_name", "_law_k", "_law_bent_here", "_law_many_here", "_law_parts_here", "_law_struck_here", "_law_arms", "_law_thing", "_law_odd_here", "_law_twins", "_law_apart", "_law_rows", "_law_fields", "_law_due"]
theorem sc_law : FnScope N_law ["_law_script"] (defScope s_law) := ⟨rfl, rfl, rfl, by decide +kernel, rfl, by decide +kernel, by decide +kernel⟩
theorem valV_mem {kvs : List (Key × V)} {k : Key} {x : V} (h : (k, x) ∈ kvs) : ∃ v, valV kvs k = some v := by
  cases e : valV kvs k with
  | some v => exact ⟨v, rfl⟩
  | none => exact absurd (List.mem_map_of_mem (f := (·.1)) h) (valV_not e)
theorem up_frz {K : PySem.W.Frag} {H : Hp} {S : Addr} {kvs : List (Key × V)} {o : HO} (h : H S = some (.dK kvs)) : Up K H (upd H S o) := by
  have ne : ∀ {x : Addr} {o : HO}, H x = some o → (∀ k, o ≠ .dK k) → x ≠ S := fun e n z => by
    rw [z, h] at e
    cases e
    exact n _ rfl
  intro c xs q
  rcases q with (q | ⟨o, q⟩) | q
  · exact .inl (.inl (by rw [upd_ne (ne q fun _ z => nomatch z)]; exact q))
  · exact .inl (.inr ⟨o, by rw [upd_ne (ne q fun _ z => nomatch z)]; exact q⟩)
  · exact .inr q
def spLaw (K : PySem.W.Frag) : Sp := fun vs H Q _ => ∃ (a : Addr) (ns : List Int), vs = [.ref a] ∧ SqL K H a (ns.map V.int) ∧ ns.length ≤ 63 ∧ ∀ H', Q (.bl true) H'
def spBentA (K : PySem.W.Frag) : Sp := fun vs H Q E => ∃ n, n ≤ 8 ∧ spBent K n vs H Q E
theorem askT {a : Bool} : (!decide (V.bl a = V.bl a)) = false := by cases a <;> rfl
theorem mp_gd {n : Nat} (h : n ≤ 9) : gdTs (mp n) ∧ gdTs ((mp n).map armOf) ∧ gdTs (ms n) := by
  have ga : gdT (.str "a") := lit_gd (by decide +kernel) (by decide +kernel)
  have gl : ∀ k < n, gdT (.str ⟨#[97 + k]⟩) := fun k hk => by
    refine ⟨fun c mc => ?_, by show 1 ≤ 1000; decide⟩
    have : c = 97 + k := by simpa using mc
    subst this
    exact ⟨by omega, by omega, by omega⟩
  refine ⟨gdTs_all.mpr fun t mt => ?_, gdTs_all.mpr fun t mt => ?_, gdTs_all.mpr fun t mt => ?_⟩
  · obtain ⟨k, mk, rfl⟩ := List.mem_map.mp (show t ∈ mp n from mt)
    exact ⟨trivial, gl k (List.mem_range.mp mk), ga, trivial, trivial⟩
  · obtain ⟨u, mu, rfl⟩ := List.mem_map.mp mt
    obtain ⟨k, mk, rfl⟩ := List.mem_map.mp (show u ∈ mp n from mu)
    exact ⟨trivial, gl k (List.mem_range.mp mk), ga, trivial⟩
  · obtain ⟨k, mk, rfl⟩ := List.mem_map.mp (show t ∈ ms n from mt)
    exact trivial
def three (j : Nat) : List Th := [.tup [.str "record", .tup (mp j), .tup []], .tup [.str "record", .tup [], .tup (ms j)], .tup [.str "choice", .tup ((mp j).map armOf), .tup [], .bl true]]
theorem three_shape : ∀ j < 10, ∀ t ∈ three j, shapeTh t = decide ((0 + (j : Int)) < 9) := by decide +kernel
theorem three_gd {j : Nat} (h : j ≤ 9) : ∀ t ∈ three j, gdT t := by
  obtain ⟨a, b, c⟩ := mp_gd h
  intro t mt
  simp only [three, List.mem_cons, List.not_mem_nil, or_false] at mt
  rcases mt with rfl | rfl | rfl
  · exact ⟨words2_gd.1, a, trivial, trivial⟩
  · exact ⟨words2_gd.1, trivial, c, trivial⟩
  · exact ⟨words2_gd.2, b, trivial, trivial, trivial⟩
def odds : List Th := [.non, .bl true, .int 0, .str "", .str "truth", .tup [], .opq, .opq, .tup [.str "truth", .tup []], .opq, .tup [.str "Truth"], .tup [.tup [.str "truth"]], .tup [.str "row"]]
theorem odds_shape : ∀ t ∈ odds, shapeTh t = false := by decide +kernel
theorem odds_gd : ∀ t ∈ odds, gdT t := by
  have L : ∀ x ∈ (["", "truth", "Truth", "row"] : List Str), gdT (.str x) := fun x m => by
    have h : ∀ x ∈ (["", "truth", "Truth", "row"] : List Str), (x.cps.toList.all fun c => decide (gdC c)) = true ∧ x.length ≤ 1000 := by decide +kernel
    exact lit_gd (h x m).1 (h x m).2
  intro t mt
  simp only [odds, List.mem_cons, List.not_mem_nil, or_false] at mt
  rcases mt with rfl | rfl | rfl | rfl | rfl | rfl | rfl | rfl | rfl | rfl | rfl | rfl | rfl <;> first
    | exact trivial
    | exact L _ (by simp)
    | exact ⟨L _ (by simp), trivial⟩
    | exact ⟨L _ (by simp), trivial, trivial⟩
    | exact ⟨⟨L _ (by simp), trivial⟩, trivial⟩
def fld (n : Int) (x y : Str) : Th := .tup [.int n, .str x, .str y, .tup []]
def twins : List Th := [fld 2 "a" "b", fld 5 "a" "c"]
def apart : List Th := [fld 2 "a" "b", fld 5 "ab" "b"]
structure RowOk (fs us : List Th) (b : Bool) : Prop where
  form : ∀ f ∈ fs, ∃ t1 t2 t3 t4, f = .tup [t1, t2, t3, t4]
  len : fs.length ≤ 8
  rc : shapeTh (.tup [.str "record", .tup fs, .tup us]) = b
  cho : shapeTh (.tup [.str "choice", .tup (fs.map armOf), .tup us, .bl false]) = b
  gf : gdTs fs
  ga : gdTs (fs.map armOf)
  gu : gdTs us
theorem fld_gd {n : Int} {x y : Str} (hx : x ∈ (["a", "b", "c", "ab"] : List Str)) (hy : y ∈ (["a", "b", "c", "ab"] : List Str)) : gdT (fld n x y) ∧ gdT (armOf (fld n x y)) := by
  have L : ∀ x ∈ (["a", "b", "c", "ab"] : List Str), gdT (.str x) := fun x m => by
    have h : ∀ x ∈ (["a", "b", "c", "ab"] : List Str), (x.cps.toList.all fun c => decide (gdC c)) = true ∧ x.length ≤ 1000 := by decide +kernel
    exact lit_gd (h x m).1 (h x m).2
  exact ⟨⟨trivial, L x hx, L y hy, trivial, trivial⟩, ⟨trivial, L x hx, L y hy, trivial⟩⟩
theorem row_of {n k : Int} {x y z u : Str} (hx : x ∈ (["a", "b", "c", "ab"] : List Str)) (hy : y ∈ (["a", "b", "c", "ab"] : List Str)) (hz : z ∈ (["a", "b", "c", "ab"] : List Str)) (hu : u ∈ (["a", "b", "c", "ab"] : List Str)) {us : List Int} {b : Bool}
    (h1 : shapeTh (.tup [.str "record", .tup [fld n x y, fld k z u], .tup (us.map Th.int)]) = b) (h2 : shapeTh (.tup [.str "choice", .tup ([fld n x y, fld k z u].map armOf), .tup (us.map Th.int), .bl false]) = b) : RowOk [fld n x y, fld k z u] (us.map Th.int) b := by
  have p := fld_gd (n := n) hx hy
  have r := fld_gd (n := k) hz hu
  refine ⟨fun f m => ?_, by show 2 ≤ 8; decide, h1, h2, ⟨p.1, r.1, trivial⟩, ⟨p.2, r.2, trivial⟩, (ints_fine us).1⟩
  simp only [List.mem_cons, List.not_mem_nil, or_false] at m
  rcases m with rfl | rfl
  · exact ⟨_, _, _, _, rfl⟩
  · exact ⟨_, _, _, _, rfl⟩
theorem row1 : RowOk twins (([] : List Int).map Th.int) false := row_of (by simp) (by simp) (by simp) (by simp) (by decide +kernel) (by decide +kernel)
theorem row2 : RowOk apart (([] : List Int).map Th.int) true := row_of (by simp) (by simp) (by simp) (by simp) (by decide +kernel) (by decide +kernel)
theorem row3 : RowOk apart (([3, 5, 9] : List Int).map Th.int) false := row_of (by simp) (by simp) (by simp) (by simp) (by decide +kernel) (by decide +kernel)
theorem row4 : RowOk apart (([3, 9] : List Int).map Th.int) true := row_of (by simp) (by simp) (by simp) (by simp) (by decide +kernel) (by decide +kernel)
def Row (K : PySem.W.Frag) (H : Hp) (x : V) : Prop := ∃ (r Tf : Addr) (sv : V) (b : Bool) (fs us : List Th) (fw : List V), x = .ref r ∧ SqT K H r [.ref Tf, sv, .bl b] ∧ H Tf = some (.lst fw) ∧ AreTh K H fs fw ∧ IsTh K H (.tup us) sv ∧ RowOk fs us b
section
variable {P : Program} {w : World} {K : PySem.W.Frag} {mg : Str → Option Value} {base : Heap} {f : Addr} {fd : FuncData}
theorem ok_law (F : Fun K "law" "law" s_law f fd) (m : Bn mg) (g_law_feed : Fn P w K mg base 1 "_law_feed" ["_law_script"] (spFeed K)) (g_law_draw : Fn P w K mg base 1 "_law_draw" ["_law_feed_here", "_law_many_here"] spDraw) (g_law_make : Fn P w K mg base 4 "_law_make" ["_law_feed_here"] (spMake K))
    (g_law_asked : Fn P w K mg base 7 "_law_asked" ["_law_thing", "_law_due"] (spAsked K)) (g_law_bent : Fn P w K mg base 11 "_law_bent" ["_law_feed_here", "_law_thing"] (spBentA K)) (g_law_is_shape : Fn P w K mg base 4 "_law_is_shape" ["_law_thing"] (spB1 K shapeTh))
    (g_law_many : Fn P w K mg base 1 "_law_many" ["_law_many_here", "_law_arms"] (spMany K)) : FnOk P w K mg base CX0 12 f fd ["_law_script"] (spLaw K) := by
  refine F.ok sc_law (fun vs H Q E h => ?_) (fun cdv A outer s H vs Q E hr h => ?_)
  · obtain ⟨a, ns, rfl, _⟩ := h
    rfl
  obtain ⟨a, ns, rfl, hA, h63, q⟩ := h
  refine ⟨_, (@pss_cons _ _ _ _ _ (@ps_setI _ 1 _ _ _ _ _ sc_law.nd rfl (by first | exact Or.inl rfl | exact Or.inr rfl) (@pe_callF _ _ _ _ _ _ _ _ _ _ g_law_feed (hr.mono (by omega)) rfl (@pa_cons _ _ _ _ _ (pv 0) pa_nil rfl) (by decide) rfl rfl) rfl (by first | exact .inl rfl | exact .inr rfl)) (@pss_cons _ _ _ _ _ (@ps_setI _ 2 _ _ _ _ _ sc_law.nd rfl (by first | exact Or.inl rfl | exact Or.inr rfl) (@pe_ix _ _ _ _ _ _ _ ix_tup (@pe_callF _ _ _ _ _ _ _ _ _ _ g_law_make (hr.mono (by omega)) rfl (@pa_cons _ _ _ _ _ (pv 1) pa_nil rfl) (by decide) rfl rfl) pe_int (fun _ _ =>  rfl)) rfl (by first | exact .inl rfl | exact .inr rfl)) (@pss_cons _ _ _ _ _ (@ps_for _ _ _ _ _ _ _ _ PassesOwn.never rfl (@pi_dict _ _ _ _ (pv 2)) (@pg_nameI _ 3 _ _ sc_law.nd rfl (by first | exact Or.inl rfl | exact Or.inr rfl) (by first | exact .inl rfl | exact .inr rfl)) (@pss_cons _ _ _ _ _ (@ps_if _ _ _ _ _ _ _ _ (@pt_not _ _ _ _ (@pt_val _ _ _ (@pe_callF _ _ _ _ _ _ _ _ _ _ g_law_asked (hr.mono (by omega)) rfl (@pa_cons _ _ _ _ _ (@pe_dget _ _ _ _ _ _ (hu_of hr) (pv 2) (pv 3) (fun _ _ =>  rfl)) (@pa_cons _ _ _ _ _ pe_bl pa_nil rfl) rfl) (by decide) rfl rfl) (by intro _; rfl))) (@pss_one _ _ _ (@ps_ret _ _ _ _ pe_bl)) pss_nil) (@pss_one _ _ _ (@ps_for _ _ _ _ _ _ _ _ PassesOwn.never rfl (@pi_range1 _ _ _ _ _ _ rfl m.range (@pa_cons _ _ _ _ _ pe_int pa_nil rfl) (by first | rfl | decide | (intro _; rfl) | exact .inl rfl | exact .inr rfl | assumption)) (@pg_nameI _ 4 _ _ sc_law.nd rfl (by first | exact Or.inl rfl | exact Or.inr rfl) (by first | exact .inl rfl | exact .inr rfl)) (@pss_cons _ _ _ _ _ (@ps_setI _ 5 _ _ _ _ _ sc_law.nd rfl (by first | exact Or.inl rfl | exact Or.inr rfl) (@pe_callF _ _ _ _ _ _ _ _ _ _ g_law_bent (hr.mono (by omega)) rfl (@pa_cons _ _ _ _ _ (pv 1) (@pa_cons _ _ _ _ _ (@pe_dget _ _ _ _ _ _ (hu_of hr) (pv 2) (pv 3) (fun _ _ =>  rfl)) pa_nil rfl) rfl) (by decide) rfl rfl) rfl (by first | exact .inl rfl | exact .inr rfl)) (@pss_cons _ _ _ _ _ (@ps_if _ _ _ _ _ _ _ _ (@pt_cmpR _ _ _ _ _ _ _ _ op_eq (@pe_callF _ _ _ _ _ _ _ _ _ _ g_law_draw (hr.mono (by omega)) rfl (@pa_cons _ _ _ _ _ (pv 1) (@pa_cons _ _ _ _ _ pe_int pa_nil rfl) rfl) (by decide) rfl rfl) pe_int (nomark _)) (@pss_one _ _ _ (@ps_setI _ 5 _ _ _ _ _ sc_law.nd rfl (by first | exact Or.inl rfl | exact Or.inr rfl) (@pe_callF _ _ _ _ _ _ _ _ _ _ g_law_bent (hr.mono (by omega)) rfl (@pa_cons _ _ _ _ _ (pv 1) (@pa_cons _ _ _ _ _ (pv 5) pa_nil rfl) rfl) (by decide) rfl rfl) rfl (by first | exact .inl rfl | exact .inr rfl))) pss_nil) (@pss_one _ _ _ (@ps_if _ _ _ _ _ _ _ _ (@pt_not _ _ _ _ (@pt_val _ _ _ (@pe_callF _ _ _ _ _ _ _ _ _ _ g_law_asked (hr.mono (by omega)) rfl (@pa_cons _ _ _ _ _ (pv 5) (@pa_cons _ _ _ _ _ (@pe_callF _ _ _ _ _ _ _ _ _ _ g_law_is_shape (hr.mono (by omega)) rfl (@pa_cons _ _ _ _ _ (pv 5) pa_nil rfl) (by decide) rfl rfl) pa_nil rfl) rfl) (by decide) rfl rfl) (by intro _; rfl))) (@pss_one _ _ _ (@ps_ret _ _ _ _ pe_bl)) pss_nil)))) (by first | rfl | decide | (intro _; rfl) | exact .inl rfl | exact .inr rfl | assumption)))) (by first | rfl | decide | (intro _; rfl) | exact .inl rfl | exact .inr rfl | assumption)) (@pss_cons _ _ _ _ _ (@ps_for _ _ _ _ _ _ _ _ PassesOwn.never rfl (@pi_range1 _ _ _ _ _ _ rfl m.range (@pa_cons _ _ _ _ _ pe_int pa_nil rfl) (by first | rfl | decide | (intro _; rfl) | exact .inl rfl | exact .inr rfl | assumption)) (@pg_nameI _ 6 _ _ sc_law.nd rfl (by first | exact Or.inl rfl | exact Or.inr rfl) (by first | exact .inl rfl | exact .inr rfl)) (@pss_cons _ _ _ _ _ (@ps_asg _ _ _ _ _ _ (@pe_callF _ _ _ _ _ _ _ _ _ _ g_law_many (hr.mono (by omega)) rfl (@pa_cons _ _ _ _ _ (pv 6) (@pa_cons _ _ _ _ _ pe_bl pa_nil rfl) rfl) (by decide) rfl rfl) (@pg_tup _ _ _ _ _ _ rfl (@pgs_cons _ _ _ _ _ (@pg_nameI _ 7 _ _ sc_law.nd rfl (by first | exact Or.inl rfl | exact Or.inr rfl) (by first | exact .inl rfl | exact .inr rfl)) (@pgs_cons _ _ _ _ _ (@pg_nameI _ 8 _ _ sc_law.nd rfl (by first | exact Or.inl rfl | exact Or.inr rfl) (by first | exact .inl rfl | exact .inr rfl)) pgs_nil (by first | rfl | decide | (intro _; rfl) | exact .inl rfl | exact .inr rfl | assumption)) (by first | rfl | decide | (intro _; rfl) | exact .inl rfl | exact .inr rfl | assumption)) (by first | rfl | decide | (intro _; rfl) | exact .inl rfl | exact .inr rfl | assumption) (by first | rfl | decide | (intro _; rfl) | exact .inl rfl | exact .inr rfl | assumption)) (by first | rfl | decide | (intro _; rfl) | exact .inl rfl | exact .inr rfl | assumption) (by first | rfl | decide | (intro _; rfl) | exact .inl rfl | exact .inr rfl | assumption) (by first | rfl | decide | (intro _; rfl) | exact .inl rfl | exact .inr rfl | assumption)) (@pss_cons _ _ _ _ _ (@ps_setI _ 9 _ _ _ _ _ sc_law.nd rfl (by first | exact Or.inl rfl | exact Or.inr rfl) (@pe_ix _ _ _ _ _ _ _ ix_tup (@pe_callF _ _ _ _ _ _ _ _ _ _ g_law_many (hr.mono (by omega)) rfl (@pa_cons _ _ _ _ _ (pv 6) (@pa_cons _ _ _ _ _ pe_bl pa_nil rfl) rfl) (by decide) rfl rfl) pe_int (fun _ _ =>  rfl)) rfl (by first | exact .inl rfl | exact .inr rfl)) (@pss_one _ _ _ (@ps_for _ _ _ _ _ _ _ _ PassesOwn.never rfl (@pi_list _ _ _ _ (@pe_lst _ _ _ _ (@pa_cons _ _ _ _ _ (@pe_tup _ _ _ _ _ (@pa_cons _ _ _ _ _ pe_str (@pa_cons _ _ _ _ _ (pv 7) (@pa_cons _ _ _ _ _ (@pe_tup _ _ _ _ _ pa_nil) pa_nil rfl) rfl) rfl)) (@pa_cons _ _ _ _ _ (@pe_tup _ _ _ _ _ (@pa_cons _ _ _ _ _ pe_str (@pa_cons _ _ _ _ _ (@pe_tup _ _ _ _ _ pa_nil) (@pa_cons _ _ _ _ _ (pv 8) pa_nil rfl) rfl) rfl)) (@pa_cons _ _ _ _ _ (@pe_tup _ _ _ _ _ (@pa_cons _ _ _ _ _ pe_str (@pa_cons _ _ _ _ _ (pv 9) (@pa_cons _ _ _ _ _ (@pe_tup _ _ _ _ _ pa_nil) (@pa_cons _ _ _ _ _ pe_bl pa_nil rfl) rfl) rfl) rfl)) pa_nil rfl) rfl) rfl))) (@pg_nameI _ 10 _ _ sc_law.nd rfl (by first | exact Or.inl rfl | exact Or.inr rfl) (by first | exact .inl rfl | exact .inr rfl)) (@pss_one _ _ _ (@ps_if _ _ _ _ _ _ _ _ (@pt_not _ _ _ _ (@pt_val _ _ _ (@pe_callF _ _ _ _ _ _ _ _ _ _ g_law_asked (hr.mono (by omega)) rfl (@pa_cons _ _ _ _ _ (pv 10) (@pa_cons _ _ _ _ _ (@pe_cmpR _ _ _ _ _ _ _ _ op_lt (pv 6) pe_int (nomark _)) pa_nil rfl) rfl) (by decide) rfl rfl) (by intro _; rfl))) (@pss_one _ _ _ (@ps_ret _ _ _ _ pe_bl)) pss_nil)) (by first | rfl | decide | (intro _; rfl) | exact .inl rfl | exact .inr rfl | assumption))))) (by first | rfl | decide | (intro _; rfl) | exact .inl rfl | exact .inr rfl | assumption)) (@pss_cons _ _ _ _ _ (@ps_for _ _ _ _ _ _ _ _ PassesOwn.never rfl (@pi_list _ _ _ _ (@pe_lst _ _ _ _ (@pa_cons _ _ _ _ _ pe_non (@pa_cons _ _ _ _ _ pe_bl (@pa_cons _ _ _ _ _ pe_int (@pa_cons _ _ _ _ _ pe_str (@pa_cons _ _ _ _ _ pe_str (@pa_cons _ _ _ _ _ (@pe_tup _ _ _ _ _ pa_nil) (@pa_cons _ _ _ _ _ (@pe_lst _ _ _ _ pa_nil) (@pa_cons _ _ _ _ _ (@pe_dct0 _ _) (@pa_cons _ _ _ _ _ (@pe_tup _ _ _ _ _ (@pa_cons _ _ _ _ _ pe_str (@pa_cons _ _ _ _ _ (@pe_tup _ _ _ _ _ pa_nil) pa_nil rfl) rfl)) (@pa_cons _ _ _ _ _ (@pe_lst _ _ _ _ (@pa_cons _ _ _ _ _ pe_str pa_nil rfl)) (@pa_cons _ _ _ _ _ (@pe_tup _ _ _ _ _ (@pa_cons _ _ _ _ _ pe_str pa_nil rfl)) (@pa_cons _ _ _ _ _ (@pe_tup _ _ _ _ _ (@pa_cons _ _ _ _ _ (@pe_tup _ _ _ _ _ (@pa_cons _ _ _ _ _ pe_str pa_nil rfl)) pa_nil rfl)) (@pa_cons _ _ _ _ _ (@pe_tup _ _ _ _ _ (@pa_cons _ _ _ _ _ pe_str pa_nil rfl)) pa_nil rfl) rfl) rfl) rfl) rfl) rfl) rfl) rfl) rfl) rfl) rfl) rfl) rfl))) (@pg_nameI _ 11 _ _ sc_law.nd rfl (by first | exact Or.inl rfl | exact Or.inr rfl) (by first | exact .inl rfl | exact .inr rfl)) (@pss_one _ _ _ (@ps_if _ _ _ _ _ _ _ _ (@pt_not _ _ _ _ (@pt_val _ _ _ (@pe_callF _ _ _ _ _ _ _ _ _ _ g_law_asked (hr.mono (by omega)) rfl (@pa_cons _ _ _ _ _ (pv 11) (@pa_cons _ _ _ _ _ pe_bl pa_nil rfl) rfl) (by decide) rfl rfl) (by intro _; rfl))) (@pss_one _ _ _ (@ps_ret _ _ _ _ pe_bl)) pss_nil)) (by first | rfl | decide | (intro _; rfl) | exact .inl rfl | exact .inr rfl | assumption)) (@pss_cons _ _ _ _ _ (@ps_setI _ 12 _ _ _ _ _ sc_law.nd rfl (by first | exact Or.inl rfl | exact Or.inr rfl) (@pe_lst _ _ _ _ (@pa_cons _ _ _ _ _ (@pe_tup _ _ _ _ _ (@pa_cons _ _ _ _ _ pe_int (@pa_cons _ _ _ _ _ pe_str (@pa_cons _ _ _ _ _ pe_str (@pa_cons _ _ _ _ _ (@pe_tup _ _ _ _ _ pa_nil) pa_nil rfl) rfl) rfl) rfl)) (@pa_cons _ _ _ _ _ (@pe_tup _ _ _ _ _ (@pa_cons _ _ _ _ _ pe_int (@pa_cons _ _ _ _ _ pe_str (@pa_cons _ _ _ _ _ pe_str (@pa_cons _ _ _ _ _ (@pe_tup _ _ _ _ _ pa_nil) pa_nil rfl) rfl) rfl) rfl)) pa_nil rfl) rfl)) rfl (by first | exact .inl rfl | exact .inr rfl)) (@pss_cons _ _ _ _ _ (@ps_setI _ 13 _ _ _ _ _ sc_law.nd rfl (by first | exact Or.inl rfl | exact Or.inr rfl) (@pe_lst _ _ _ _ (@pa_cons _ _ _ _ _ (@pe_tup _ _ _ _ _ (@pa_cons _ _ _ _ _ pe_int (@pa_cons _ _ _ _ _ pe_str (@pa_cons _ _ _ _ _ pe_str (@pa_cons _ _ _ _ _ (@pe_tup _ _ _ _ _ pa_nil) pa_nil rfl) rfl) rfl) rfl)) (@pa_cons _ _ _ _ _ (@pe_tup _ _ _ _ _ (@pa_cons _ _ _ _ _ pe_int (@pa_cons _ _ _ _ _ pe_str (@pa_cons _ _ _ _ _ pe_str (@pa_cons _ _ _ _ _ (@pe_tup _ _ _ _ _ pa_nil) pa_nil rfl) rfl) rfl) rfl)) pa_nil rfl) rfl)) rfl (by first | exact .inl rfl | exact .inr rfl)) (@pss_cons _ _ _ _ _ (@ps_setI _ 14 _ _ _ _ _ sc_law.nd rfl (by first | exact Or.inl rfl | exact Or.inr rfl) (@pe_lst _ _ _ _ (@pa_cons _ _ _ _ _ (@pe_tup _ _ _ _ _ (@pa_cons _ _ _ _ _ (pv 12) (@pa_cons _ _ _ _ _ (@pe_tup _ _ _ _ _ pa_nil) (@pa_cons _ _ _ _ _ pe_bl pa_nil rfl) rfl) rfl)) (@pa_cons _ _ _ _ _ (@pe_tup _ _ _ _ _ (@pa_cons _ _ _ _ _ (pv 13) (@pa_cons _ _ _ _ _ (@pe_tup _ _ _ _ _ pa_nil) (@pa_cons _ _ _ _ _ pe_bl pa_nil rfl) rfl) rfl)) (@pa_cons _ _ _ _ _ (@pe_tup _ _ _ _ _ (@pa_cons _ _ _ _ _ (pv 13) (@pa_cons _ _ _ _ _ (@pe_tup _ _ _ _ _ (@pa_ints _ _ [3, 5, 9] rfl)) (@pa_cons _ _ _ _ _ pe_bl pa_nil rfl) rfl) rfl)) (@pa_cons _ _ _ _ _ (@pe_tup _ _ _ _ _ (@pa_cons _ _ _ _ _ (pv 13) (@pa_cons _ _ _ _ _ (@pe_tup _ _ _ _ _ (@pa_ints _ _ [3, 9] rfl)) (@pa_cons _ _ _ _ _ pe_bl pa_nil rfl) rfl) rfl)) pa_nil rfl) rfl) rfl) rfl)) rfl (by first | exact .inl rfl | exact .inr rfl)) (@pss_cons _ _ _ _ _ (@ps_for _ _ _ _ _ _ _ _ PassesOwn.never rfl (@pi_list _ _ _ _ (pv 14)) (@pg_tup _ _ _ _ _ _ rfl (@pgs_cons _ _ _ _ _ (@pg_nameI _ 15 _ _ sc_law.nd rfl (by first | exact Or.inl rfl | exact Or.inr rfl) (by first | exact .inl rfl | exact .inr rfl)) (@pgs_cons _ _ _ _ _ (@pg_nameI _ 8 _ _ sc_law.nd rfl (by first | exact Or.inl rfl | exact Or.inr rfl) (by first | exact .inl rfl | exact .inr rfl)) (@pgs_cons _ _ _ _ _ (@pg_nameI _ 16 _ _ sc_law.nd rfl (by first | exact Or.inl rfl | exact Or.inr rfl) (by first | exact .inl rfl | exact .inr rfl)) pgs_nil (by first | rfl | decide | (intro _; rfl) | exact .inl rfl | exact .inr rfl | assumption)) (by first | rfl | decide | (intro _; rfl) | exact .inl rfl | exact .inr rfl | assumption)) (by first | rfl | decide | (intro _; rfl) | exact .inl rfl | exact .inr rfl | assumption)) (by first | rfl | decide | (intro _; rfl) | exact .inl rfl | exact .inr rfl | assumption) (by first | rfl | decide | (intro _; rfl) | exact .inl rfl | exact .inr rfl | assumption)) (@pss_cons _ _ _ _ _ (@ps_setI _ 9 _ _ _ _ _ sc_law.nd rfl (by first | exact Or.inl rfl | exact Or.inr rfl) (@pe_callTy _ _ _ _ _ _ _ _ _ call_tuple_of rfl m.tuple b_tuple (@pa_cons _ _ _ _ _ (@pe_compI _ N_law (defScope s_law) ["_law_field"] [none] _ _ _ _ _ _ _ _ _ _ rfl (@pi_list _ _ _ _ (pv 15)) ⟨rfl, rfl, by decide +kernel, by decide +kernel⟩ (fun _ _ _ =>  (@pg_nameI _ 0 _ _ (show List.Nodup (["_law_field"] : List Str) from by decide +kernel) rfl (Or.inl rfl) (by first | exact .inl rfl | exact .inr rfl))) (fun _ _ _ =>  pts_nil) (fun _ _ _ =>  (@pe_slice _ _ _ _ _ _ _ _ _ _ sl_tupG (pv 0) (@po_none _) (@po_some _ _ _ pe_int))) (by first | rfl | decide | (intro _; rfl) | exact .inl rfl | exact .inr rfl | assumption)) pa_nil rfl) (by first | rfl | decide | (intro _; rfl) | exact .inl rfl | exact .inr rfl | assumption) (by first | rfl | decide | (intro _; rfl) | exact .inl rfl | exact .inr rfl | assumption) (by first | rfl | decide | (intro _; rfl) | exact .inl rfl | exact .inr rfl | assumption) (by first | rfl | decide | (intro _; rfl) | exact .inl rfl | exact .inr rfl | assumption)) rfl (by first | exact .inl rfl | exact .inr rfl)) (@pss_cons _ _ _ _ _ (@ps_if _ _ _ _ _ _ _ _ (@pt_not _ _ _ _ (@pt_val _ _ _ (@pe_callF _ _ _ _ _ _ _ _ _ _ g_law_asked (hr.mono (by omega)) rfl (@pa_cons _ _ _ _ _ (@pe_tup _ _ _ _ _ (@pa_cons _ _ _ _ _ pe_str (@pa_cons _ _ _ _ _ (@pe_callTy _ _ _ _ _ _ _ _ _ call_tuple_of rfl m.tuple b_tuple (@pa_cons _ _ _ _ _ (pv 15) pa_nil rfl) (by first | rfl | decide | (intro _; rfl) | exact .inl rfl | exact .inr rfl | assumption) (by first | rfl | decide | (intro _; rfl) | exact .inl rfl | exact .inr rfl | assumption) (by first | rfl | decide | (intro _; rfl) | exact .inl rfl | exact .inr rfl | assumption) (by first | rfl | decide | (intro _; rfl) | exact .inl rfl | exact .inr rfl | assumption)) (@pa_cons _ _ _ _ _ (pv 8) pa_nil rfl) rfl) rfl)) (@pa_cons _ _ _ _ _ (pv 16) pa_nil rfl) rfl) (by decide) rfl rfl) (by intro _; rfl))) (@pss_one _ _ _ (@ps_ret _ _ _ _ pe_bl)) pss_nil) (@pss_one _ _ _ (@ps_if _ _ _ _ _ _ _ _ (@pt_not _ _ _ _ (@pt_val _ _ _ (@pe_callF _ _ _ _ _ _ _ _ _ _ g_law_asked (hr.mono (by omega)) rfl (@pa_cons _ _ _ _ _ (@pe_tup _ _ _ _ _ (@pa_cons _ _ _ _ _ pe_str (@pa_cons _ _ _ _ _ (pv 9) (@pa_cons _ _ _ _ _ (pv 8) (@pa_cons _ _ _ _ _ pe_bl pa_nil rfl) rfl) rfl) rfl)) (@pa_cons _ _ _ _ _ (pv 16) pa_nil rfl) rfl) (by decide) rfl rfl) (by intro _; rfl))) (@pss_one _ _ _ (@ps_ret _ _ _ _ pe_bl)) pss_nil)))) (by first | rfl | decide | (intro _; rfl) | exact .inl rfl | exact .inr rfl | assumption)) (@pss_one _ _ _ (@ps_ret _ _ _ _ (@pe_and _ _ _ _ _ _ _ (@pe_callF _ _ _ _ _ _ _ _ _ _ g_law_asked (hr.mono (by omega)) rfl (@pa_cons _ _ _ _ _ (@pe_tup _ _ _ _ _ (@pa_cons _ _ _ _ _ pe_str (@pa_cons _ _ _ _ _ pe_int (@pa_cons _ _ _ _ _ pe_int pa_nil rfl) rfl) rfl)) (@pa_cons _ _ _ _ _ pe_bl pa_nil rfl) rfl) (by decide) rfl rfl) (@pe_one _ _ _ _ _ (@pe_callF _ _ _ _ _ _ _ _ _ _ g_law_asked (hr.mono (by omega)) rfl (@pa_cons _ _ _ _ _ (@pe_tup _ _ _ _ _ (@pa_cons _ _ _ _ _ pe_str (@pa_cons _ _ _ _ _ pe_int (@pa_cons _ _ _ _ _ pe_int pa_nil rfl) rfl) rfl)) (@pa_cons _ _ _ _ _ pe_bl pa_nil rfl) rfl) (by decide) rfl rfl)))))))))))))), ?_⟩
  refine ⟨_, rfl, a, ns, rfl, hA, h63, fun l H1 s1 nl f1 => ?_⟩
  refine ⟨_, rfl, l, 999999999600, rfl, f1, fun e S v kvs H2 he hS nS zk gk t2 => ⟨e, _, _, _, rfl, rfl, he, at1, ?_⟩⟩
  have nSl : S ≠ l := f1.ne nS
  refine ⟨_, rfl, S, kvs, rfl, hS, fun o => ?_⟩
  have f2 : Fd 999999999600 (upd H2 S (.frz o (.dK kvs))) l := t2.feed.set hS fun _ z => nomatch z
  have gk2 : DicG K (upd H2 S (.frz o (.dK kvs))) GoodS kvs := fun k v e => by
    obtain ⟨t, it, gt⟩ := gk k v e
    exact ⟨t, isTh_nq (up_frz hS) t v gt.nq it, gt⟩
  refine for_dict (fun i σ H5 => (∃ o3 o4 o5, σ = [some (.ref a), some (.ref l), some (.ref S), o3, o4, o5, none, none, none, none, none, none, none, none, none, none, none]) ∧ Stp l (5000 + 172 * (20 - i)) (upd H2 S (.frz o (.dK kvs))) H5)
    ⟨⟨_, _, _, rfl⟩, (Stp.refl f2).mono (by omega)⟩ ?_ ?_ ?_
  · rintro i σ H5 hi ⟨_, t5⟩
    exact t5.keep _ _ nSl upd_same
  · rintro i k x σ H5 ek ⟨⟨o3, o4, o5, rfl⟩, t5⟩
    have hi : i < kvs.length := (List.getElem?_eq_some_iff.mp ek).1
    obtain ⟨v0, ev0⟩ := valV_mem (List.mem_of_getElem? ek)
    obtain ⟨t, it0, gt⟩ := gk2 k v0 ev0
    have dg : ∀ {H7 : Hp} {r7 : Nat}, Stp l r7 (upd H2 S (.frz o (.dK kvs))) H7 → DGet H7 S (kV k) (some v0) := fun t7 => .inl ⟨kvs, k, .inr ⟨o, t7.keep _ _ nSl upd_same⟩, rfl, ev0.symm⟩
    have it5 := IsTh.up (t5.upT f2) _ _ it0
    refine ⟨_, rfl, _, rfl, S, v0, rfl, dg t5, v0, t, true, rfl, it5, gt.gd, fun H6 s6 => ⟨_, rfl, iteN (by rw [gt.sh]; rfl) ?_⟩⟩
    have t6 := t5.same s6
    refine ⟨_, rfl, by decide, by decide, ?_⟩
    refine for_range (fun j σ H5 => (∃ o3 o4 o5, σ = [some (.ref a), some (.ref l), some (.ref S), o3, o4, o5, none, none, none, none, none, none, none, none, none, none, none] ∧ o3 = some (kV k)) ∧ Stp l (5000 + 172 * (20 - (i + 1)) + 43 * (4 - j)) (upd H2 S (.frz o (.dK kvs))) H5)
      ⟨⟨_, _, _, rfl, rfl⟩, t6.mono (by omega)⟩ ?_ ?_
    · rintro j σ H7 hj ⟨⟨_, o4, o5, rfl, rfl⟩, t7⟩
      have hj : j < 4 := hj
      refine ⟨_, rfl, _, rfl, _, rfl, S, v0, rfl, dg t7, 6, by decide, l, v0, t, 5000 + 172 * (20 - (i + 1)) + 43 * (4 - (j + 1)) + 25, rfl, t7.feed.mono (show 5000 + 172 * (20 - (i + 1)) + 43 * (4 - (j + 1)) + 25 + 3 * 5 + 3 ≤ 5000 + 172 * (20 - (i + 1)) + 43 * (4 - j) by omega), IsTh.up (t7.upT f2) _ _ it0, gt.gd, gt.dp, Nat.le_trans gt.wd (by decide), fun xb ub H8 ib ob tb8 => ?_⟩
      have tb := t7.trans tb8
      refine ⟨_, rfl, l, 3, 5000 + 172 * (20 - (i + 1)) + 43 * (4 - (j + 1)) + 24, rfl, tb.feed, by decide, by decide, fun z HA z0 z1 tA => ⟨rfl, _, rfl, ?_⟩⟩
      have gb := ob.gd
      have ibA := IsTh.up (tA.upT tb.feed) _ _ ib
      have tbA := tb.trans tA
      refine ite2 (fun cz => ?_) (fun cz => ?_)
      · refine ⟨_, rfl, _, rfl, 8, by decide, l, xb, ub, 5000 + 172 * (20 - (i + 1)) + 43 * (4 - (j + 1)), rfl, tbA.feed.mono (show 5000 + 172 * (20 - (i + 1)) + 43 * (4 - (j + 1)) + 3 * 7 + 3 ≤ 5000 + 172 * (20 - (i + 1)) + 43 * (4 - (j + 1)) + 24 by omega), ibA, gb, ?_, ?_, fun xb ub2 HB ib ob2 tB => ?_⟩
        · have h1 := ob.dp
          have h2 := gt.dp
          show dpT ub ≤ 7
          omega
        · have := ob.wd
          have := gt.wd
          omega
        have gb := ob2.gd
        have tb := tbA.trans tB
        refine ⟨_, rfl, _, rfl, xb, ub2, rfl, ib, gb, fun H9 s9 => ?_⟩
        have i9 := IsTh.up s9.upT _ _ ib
        refine ⟨xb, ub2, _, rfl, i9, gb, fun H10 s10 => ⟨_, rfl, iteN askT ?_⟩⟩
        exact ⟨⟨_, _, _, rfl, rfl⟩, (tb.same (s9.trans s10)).mono (by omega)⟩
      · have ib := ibA
        have tb := tbA
        refine ⟨_, rfl, _, rfl, xb, ub, rfl, ib, gb, fun H9 s9 => ?_⟩
        have i9 := IsTh.up s9.upT _ _ ib
        refine ⟨xb, ub, _, rfl, i9, gb, fun H10 s10 => ⟨_, rfl, iteN askT ?_⟩⟩
        exact ⟨⟨_, _, _, rfl, rfl⟩, (tb.same (s9.trans s10)).mono (by omega)⟩
    · rintro σ H7 ⟨⟨_, o4, o5, rfl, rfl⟩, t7⟩
      exact ⟨⟨_, _, _, rfl⟩, t7.mono (by omega)⟩
  · rintro σ H5 ⟨⟨o3, o4, o5, rfl⟩, t5⟩
    refine ⟨_, rfl, by decide, by decide, ?_⟩
    refine for_range (fun j σ _ => ∃ o6 o7 o8 o9 o10, σ = [some (.ref a), some (.ref l), some (.ref S), o3, o4, o5, o6, o7, o8, o9, o10, none, none, none, none, none, none]) ⟨_, _, _, _, _, rfl⟩ ?_ ?_
    · rintro j σ H6 hj ⟨o6, o7, o8, o9, o10, rfl⟩
      have hj : j < 10 := hj
      have e0 : V.int (0 + (j : Int)) = V.int j := by rw [Int.zero_add]
      refine ⟨_, rfl, j, false, by rw [← e0]; rfl, by omega, fun e v1 v2 H7 he i1 i2 s7 => ⟨e, _, rfl, he, rfl, _, _, rfl, _, _, rfl, rfl, ?_⟩⟩
      refine ⟨_, rfl, j, true, by rw [← e0]; rfl, by omega, fun e2 w1 w2 H8 he2 k1 k2 s8 => ⟨e2, _, _, _, rfl, rfl, he2, at0, ?_⟩⟩
      refine ⟨_, rfl, (by show 0 ≤ sizeLine; decide), fun c1 g1 => ⟨(by show 3 ≤ sizeLine; decide), fun d1 h1 => ⟨(by show 0 ≤ sizeLine; decide), fun c2 g2 => ⟨_, rfl, (by show 3 ≤ sizeLine; decide), fun d2 h2 => ⟨_, rfl, (by show 0 ≤ sizeLine; decide), fun c3 g3 => ⟨(by show 4 ≤ sizeLine; decide), fun d3 h3 => ⟨(by show 3 ≤ sizeLine; decide), fun L hL => ⟨L, rfl, ⟨_, SqL.of upd_same⟩, ?_⟩⟩⟩⟩⟩⟩⟩⟩
      have a1 := Same.lay (o := .tup []) g1
      have b1 := Same.lay (o := .tup [.str "record", v1, .ref c1]) h1
      have a2 := Same.lay (o := .tup []) g2
      have b2 := Same.lay (o := .tup [.str "record", .ref c2, v2]) h2
      have a3 := Same.lay (o := .tup []) g3
      have b3 := Same.lay (o := .tup [.str "choice", w1, .ref c3, .bl true]) h3
      have bL := Same.lay (o := .lst [.ref d1, .ref d2, .ref d3]) hL
      have z3 := b3.trans bL
      have y3 := a3.trans z3
      have z2 := b2.trans y3
      have y2 := a2.trans z2
      have z1 := b1.trans y2
      have y1 := a1.trans z1
      have all : AreTh K _ (three j) [.ref d1, .ref d2, .ref d3] :=
        ⟨_, _, rfl, ⟨d1, _, rfl, y2.up _ _ (SqT.of upd_same), _, _, rfl, rfl, _, _, rfl, IsTh.up (s8.trans y1).upT _ _ i1, _, _, rfl, ⟨c1, _, rfl, z1.up _ _ (SqT.of upd_same), rfl⟩, rfl⟩,
         _, _, rfl, ⟨d2, _, rfl, y3.up _ _ (SqT.of upd_same), _, _, rfl, rfl, _, _, rfl, ⟨c2, _, rfl, z2.up _ _ (SqT.of upd_same), rfl⟩, _, _, rfl, IsTh.up (s8.trans y1).upT _ _ i2, rfl⟩,
         _, _, rfl, ⟨d3, _, rfl, bL.up _ _ (SqT.of upd_same), _, _, rfl, rfl, _, _, rfl, IsTh.up y1.upT _ _ k1, _, _, rfl, ⟨c3, _, rfl, z3.up _ _ (SqT.of upd_same), rfl⟩, _, _, rfl, rfl, rfl⟩, rfl⟩
      revert all
      generalize hHL : upd _ L (HO.lst [V.ref d1, V.ref d2, V.ref d3]) = HL
      intro all
      have hLL : HL L = some (.lst [.ref d1, .ref d2, .ref d3]) := by rw [← hHL]; exact upd_same
      refine for_list (K := K) (xs := [.ref d1, .ref d2, .ref d3]) (fun i σ H9 => (∃ o10, σ = [some (.ref a), some (.ref l), some (.ref S), o3, o4, o5, some (.int (0 + (j : Int))), some v1, some v2, some w1, o10, none, none, none, none, none, none]) ∧ Same HL H9) ⟨⟨_, rfl⟩, Same.refl _⟩ ?_ ?_ ?_
      · rintro i σ H9 hi ⟨_, s9⟩
        exact s9.seq (SqL.of hLL)
      · rintro i x σ H9 hx ⟨⟨o10, rfl⟩, s9⟩
        obtain ⟨t, et, it⟩ := all.got hx
        have mt := List.mem_of_getElem? et
        refine ⟨_, rfl, _, rfl, _, _, rfl, rfl, x, t, _, rfl, IsTh.up s9.upT _ _ it, three_gd (by omega) t mt, fun HA sA => ⟨_, rfl, iteN ?_ ⟨⟨_, rfl⟩, s9.trans sA⟩⟩⟩
        rw [three_shape j hj t mt]; exact askT
      · rintro σ H9 ⟨⟨o10, rfl⟩, s9⟩
        exact ⟨_, _, _, _, _, rfl⟩
    · rintro σ H6 ⟨o6, o7, o8, o9, o10, rfl⟩
      refine ⟨(by show 0 ≤ sizeLine; decide), fun e1 g1 => ⟨(by show 0 ≤ sizeLine; decide), fun e2 g2 => fun e3 g3 => ⟨(by show 0 ≤ sizeLine; decide), fun e4 g4 => ⟨(by show 2 ≤ sizeLine; decide), fun e5 g5 => ⟨(by show 1 ≤ sizeLine; decide), fun e6 g6 => ⟨(by show 1 ≤ sizeLine; decide), fun e7 g7 => ⟨(by show 1 ≤ sizeLine; decide), fun e8 g8 => ⟨(by show 1 ≤ sizeLine; decide), fun e9 g9 => ⟨(by show 1 ≤ sizeLine; decide), fun e10 g10 => ⟨(by show 13 ≤ sizeLine; decide), fun L hL => ⟨L, rfl, ⟨_, SqL.of upd_same⟩, ?_⟩⟩⟩⟩⟩⟩⟩⟩⟩⟩⟩
      have u1 := Same.lay (o := .tup []) g1
      have u2 := Same.lay (o := .lst []) g2
      have u3 := Same.lay (o := .dK []) g3
      have u4 := Same.lay (o := .tup []) g4
      have u5 := Same.lay (o := .tup [.str "truth", .ref e4]) g5
      have u6 := Same.lay (o := .lst [.str "truth"]) g6
      have u7 := Same.lay (o := .tup [.str "Truth"]) g7
      have u8 := Same.lay (o := .tup [.str "truth"]) g8
      have u9 := Same.lay (o := .tup [.ref e8]) g9
      have u10 := Same.lay (o := .tup [.str "row"]) g10
      have uL := Same.lay (o := .lst [.non, .bl true, .int 0, .str "", .str "truth", .ref e1, .ref e2, .ref e3, .ref e5, .ref e6, .ref e7, .ref e9, .ref e10]) hL
      have y9 := u10.trans uL
      have y8 := u9.trans y9
      have y7 := u8.trans y8
      have y6 := u7.trans y7
      have y5 := u6.trans y6
      have y4 := u5.trans y5
      have y3 := u4.trans y4
      have y2 := u3.trans y3
      have y1 := u2.trans y2
      have all : AreTh K _ odds [.non, .bl true, .int 0, .str "", .str "truth", .ref e1, .ref e2, .ref e3, .ref e5, .ref e6, .ref e7, .ref e9, .ref e10] :=
        ⟨_, _, rfl, rfl, _, _, rfl, rfl, _, _, rfl, rfl, _, _, rfl, rfl, _, _, rfl, rfl, _, _, rfl, ⟨e1, _, rfl, y1.up _ _ (SqT.of upd_same), rfl⟩, _, _, rfl, ⟨e2, rfl, .inl ⟨[], y2 _ _ upd_same⟩⟩, _, _, rfl, ⟨e3, rfl, .inr ⟨[], y3 _ _ upd_same⟩⟩,
         _, _, rfl, ⟨e5, _, rfl, y5.up _ _ (SqT.of upd_same), _, _, rfl, rfl, _, _, rfl, ⟨e4, _, rfl, y4.up _ _ (SqT.of upd_same), rfl⟩, rfl⟩, _, _, rfl, ⟨e6, rfl, .inl ⟨_, y6 _ _ upd_same⟩⟩, _, _, rfl, ⟨e7, _, rfl, y7.up _ _ (SqT.of upd_same), AreTh.one rfl⟩,
         _, _, rfl, ⟨e9, _, rfl, y9.up _ _ (SqT.of upd_same), AreTh.one ⟨e8, _, rfl, y8.up _ _ (SqT.of upd_same), AreTh.one rfl⟩⟩, _, _, rfl, ⟨e10, _, rfl, uL.up _ _ (SqT.of upd_same), AreTh.one rfl⟩, rfl⟩
      revert all
      generalize hHL : upd _ L (HO.lst [V.non, V.bl true, V.int 0, V.str "", V.str "truth", V.ref e1, V.ref e2, V.ref e3, V.ref e5, V.ref e6, V.ref e7, V.ref e9, V.ref e10]) = HL
      intro all
      have hLL : HL L = some (.lst [.non, .bl true, .int 0, .str "", .str "truth", .ref e1, .ref e2, .ref e3, .ref e5, .ref e6, .ref e7, .ref e9, .ref e10]) := by rw [← hHL]; exact upd_same
      refine for_list (K := K) (xs := [.non, .bl true, .int 0, .str "", .str "truth", .ref e1, .ref e2, .ref e3, .ref e5, .ref e6, .ref e7, .ref e9, .ref e10]) (fun i σ H9 => (∃ o11, σ = [some (.ref a), some (.ref l), some (.ref S), o3, o4, o5, o6, o7, o8, o9, o10, o11, none, none, none, none, none]) ∧ Same HL H9) ⟨⟨_, rfl⟩, Same.refl _⟩ ?_ ?_ ?_
      · rintro i σ H9 hi ⟨_, s9⟩
        exact s9.seq (SqL.of hLL)
      · rintro i x σ H9 hx ⟨⟨o11, rfl⟩, s9⟩
        obtain ⟨t, et, it⟩ := all.got hx
        have mt := List.mem_of_getElem? et
        refine ⟨_, rfl, x, t, false, rfl, IsTh.up s9.upT _ _ it, odds_gd t mt, fun HA sA => ⟨_, rfl, iteN ?_ ⟨⟨_, rfl⟩, s9.trans sA⟩⟩⟩
        rw [odds_shape t mt]; rfl
      · rintro σ H9 ⟨⟨o11, rfl⟩, s9⟩
        refine ⟨(by show 0 ≤ sizeLine; decide), fun a1 g1 => ⟨(by show 4 ≤ sizeLine; decide), fun b1 h1 => ⟨(by show 0 ≤ sizeLine; decide), fun a2 g2 => ⟨(by show 4 ≤ sizeLine; decide), fun b2 h2 => ⟨(by show 2 ≤ sizeLine; decide), fun T1 hT1 => ?_⟩⟩⟩⟩⟩
        refine ⟨(by show 0 ≤ sizeLine; decide), fun a3 g3 => ⟨(by show 4 ≤ sizeLine; decide), fun b3 h3 => ⟨(by show 0 ≤ sizeLine; decide), fun a4 g4 => ⟨(by show 4 ≤ sizeLine; decide), fun b4 h4 => ⟨(by show 2 ≤ sizeLine; decide), fun T2 hT2 => ?_⟩⟩⟩⟩⟩
        refine ⟨_, rfl, (by show 0 ≤ sizeLine; decide), fun c1 k1 => ⟨(by show 3 ≤ sizeLine; decide), fun r1 m1 => ⟨_, rfl, (by show 0 ≤ sizeLine; decide), fun c2 k2 => ⟨(by show 3 ≤ sizeLine; decide), fun r2 m2 => ⟨_, rfl, (by show 3 ≤ sizeLine; decide), fun c3 k3 => ⟨(by show 3 ≤ sizeLine; decide), fun r3 m3 => ⟨_, rfl, (by show 2 ≤ sizeLine; decide), fun c4 k4 => ⟨(by show 3 ≤ sizeLine; decide), fun r4 m4 => ⟨(by show 4 ≤ sizeLine; decide), fun R hR => ?_⟩⟩⟩⟩⟩⟩⟩⟩⟩
        have n1 := Same.lay (o := .tup []) g1
        have n2 := Same.lay (o := .tup [.int 2, .str "a", .str "b", .ref a1]) h1
        have n3 := Same.lay (o := .tup []) g2
        have n4 := Same.lay (o := .tup [.int 5, .str "a", .str "c", .ref a2]) h2
        have n5 := Same.lay (o := .lst [.ref b1, .ref b2]) hT1
        have n6 := Same.lay (o := .tup []) g3
        have n7 := Same.lay (o := .tup [.int 2, .str "a", .str "b", .ref a3]) h3
        have n8 := Same.lay (o := .tup []) g4
        have n9 := Same.lay (o := .tup [.int 5, .str "ab", .str "b", .ref a4]) h4
        have n10 := Same.lay (o := .lst [.ref b3, .ref b4]) hT2
        have n11 := Same.lay (o := .tup []) k1
        have n12 := Same.lay (o := .tup [.ref T1, .ref c1, .bl false]) m1
        have n13 := Same.lay (o := .tup []) k2
        have n14 := Same.lay (o := .tup [.ref T2, .ref c2, .bl true]) m2
        have n15 := Same.lay (o := .tup ([3, 5, 9].map V.int)) k3
        have n16 := Same.lay (o := .tup [.ref T2, .ref c3, .bl false]) m3
        have n17 := Same.lay (o := .tup ([3, 9].map V.int)) k4
        have n18 := Same.lay (o := .tup [.ref T2, .ref c4, .bl true]) m4
        have nR := Same.lay (o := .lst [.ref r1, .ref r2, .ref r3, .ref r4]) hR
        have q18 := n18.trans nR
        have q17 := n17.trans q18
        have q16 := n16.trans q17
        have q15 := n15.trans q16
        have q14 := n14.trans q15
        have q13 := n13.trans q14
        have q12 := n12.trans q13
        have q11 := n11.trans q12
        have q10 := n10.trans q11
        have q9 := n9.trans q10
        have q8 := n8.trans q9
        have q7 := n7.trans q8
        have q6 := n6.trans q7
        have q5 := n5.trans q6
        have q4 := n4.trans q5
        have q3 := n3.trans q4
        have q2 := n2.trans q3
        have aT1 : AreTh K _ twins [.ref b1, .ref b2] := ⟨_, _, rfl, ⟨b1, _, rfl, q3.up _ _ (SqT.of upd_same), _, _, rfl, rfl, _, _, rfl, rfl, _, _, rfl, rfl, _, _, rfl, ⟨a1, _, rfl, q2.up _ _ (SqT.of upd_same), rfl⟩, rfl⟩,
          _, _, rfl, ⟨b2, _, rfl, q5.up _ _ (SqT.of upd_same), _, _, rfl, rfl, _, _, rfl, rfl, _, _, rfl, rfl, _, _, rfl, ⟨a2, _, rfl, q4.up _ _ (SqT.of upd_same), rfl⟩, rfl⟩, rfl⟩
        have aT2 : AreTh K _ apart [.ref b3, .ref b4] := ⟨_, _, rfl, ⟨b3, _, rfl, q8.up _ _ (SqT.of upd_same), _, _, rfl, rfl, _, _, rfl, rfl, _, _, rfl, rfl, _, _, rfl, ⟨a3, _, rfl, q7.up _ _ (SqT.of upd_same), rfl⟩, rfl⟩,
          _, _, rfl, ⟨b4, _, rfl, q10.up _ _ (SqT.of upd_same), _, _, rfl, rfl, _, _, rfl, rfl, _, _, rfl, rfl, _, _, rfl, ⟨a4, _, rfl, q9.up _ _ (SqT.of upd_same), rfl⟩, rfl⟩, rfl⟩
        have eT1 := q6 _ _ (upd_same (H := _) (a := T1) (o := HO.lst [V.ref b1, V.ref b2]))
        have eT2 := q11 _ _ (upd_same (H := _) (a := T2) (o := HO.lst [V.ref b3, V.ref b4]))
        have R1 : Row K _ (.ref r1) := ⟨r1, T1, .ref c1, false, twins, _, _, rfl, q13.up _ _ (SqT.of upd_same), eT1, aT1, ⟨c1, _, rfl, q12.up _ _ (SqT.of upd_same), of_ints []⟩, row1⟩
        have R2 : Row K _ (.ref r2) := ⟨r2, T2, .ref c2, true, apart, _, _, rfl, q15.up _ _ (SqT.of upd_same), eT2, aT2, ⟨c2, _, rfl, q14.up _ _ (SqT.of upd_same), of_ints []⟩, row2⟩
        have R3 : Row K _ (.ref r3) := ⟨r3, T2, .ref c3, false, apart, _, _, rfl, q17.up _ _ (SqT.of upd_same), eT2, aT2, ⟨c3, _, rfl, q16.up _ _ (SqT.of upd_same), of_ints [3, 5, 9]⟩, row3⟩
        have R4 : Row K _ (.ref r4) := ⟨r4, T2, .ref c4, true, apart, _, _, rfl, nR.up _ _ (SqT.of upd_same), eT2, aT2, ⟨c4, _, rfl, q18.up _ _ (SqT.of upd_same), of_ints [3, 9]⟩, row4⟩
        refine ⟨_, rfl, R, rfl, ⟨_, SqL.of upd_same⟩, ?_⟩
        revert R1 R2 R3 R4
        generalize hHL : upd _ R (HO.lst [V.ref r1, V.ref r2, V.ref r3, V.ref r4]) = HR
        intro R1 R2 R3 R4
        have hRR : HR R = some (.lst [.ref r1, .ref r2, .ref r3, .ref r4]) := by rw [← hHL]; exact upd_same
        have rows : ∀ (i : Nat) (x : V), [V.ref r1, V.ref r2, V.ref r3, V.ref r4][i]? = some x → Row K HR x := fun i x e => by
          match i, e with
          | 0, e => cases e; exact R1
          | 1, e => cases e; exact R2
          | 2, e => cases e; exact R3
          | 3, e => cases e; exact R4
        refine for_list (K := K) (xs := [.ref r1, .ref r2, .ref r3, .ref r4]) (fun i σ H9 => (∃ p8 p9 p15 p16, σ = [some (.ref a), some (.ref l), some (.ref S), o3, o4, o5, o6, o7, p8, p9, o10, o11, some (.ref T1), some (.ref T2), some (.ref R), p15, p16]) ∧ Same HR H9) ⟨⟨_, _, _, _, rfl⟩, Same.refl _⟩ ?_ ?_ ?_
        · rintro i σ H9 hi ⟨_, s9⟩
          exact s9.seq (SqL.of hRR)
        · rintro i x σ H9 hx ⟨⟨p8, p9, p15, p16, rfl⟩, s9⟩
          obtain ⟨r, Tf, sv, b, fs, us, fw, rfl, hr9, hTf, afs, isv, ok⟩ := rows i x hx
          refine ⟨r, _, rfl, s9.up _ _ hr9, rfl, _, _, rfl, _, _, rfl, _, _, rfl, rfl, ?_⟩
          have lf : fs.length ≤ 1000000 := Nat.le_trans ok.len (by decide)
          refine ⟨_, rfl, Tf, rfl, ⟨_, SqL.of (s9 _ _ hTf)⟩, fun D fp sx hD => ?_⟩
          refine compT_list (f := armOf) (SqL.of (s9 _ _ hTf)) (AreTh.up s9.upT _ _ afs) lf hD (fun t v H5 Q5 mt s5 i5 q5 => ?_) fun HA wA sA hA aA => ?_
          · obtain ⟨t1, t2, t3, t4, rfl⟩ := ok.form t mt
            obtain ⟨a, xs, rfl, ha, ax⟩ := i5
            obtain ⟨v1, v2, v3, v4, rfl, j1, j2, j3, j4⟩ := are4 ax
            refine ⟨_, rfl, _, rfl, a, _, rfl, ha, fun p' H' s' h' => ?_⟩
            exact q5 (.ref p') H' s' ⟨p', _, rfl, h', _, _, rfl, IsTh.up s'.upT _ _ j1, _, _, rfl, IsTh.up s'.upT _ _ j2, _, _, rfl, IsTh.up s'.upT _ _ j3, rfl⟩
          have s9A := s9.trans sA
          refine ⟨D, _, rfl, .inl ⟨SqL.of hA, fun eB hB => ?_⟩⟩
          have sB := Same.lay (o := .tup wA) hB
          have s9B := s9A.trans sB
          refine ⟨_, rfl, Tf, _, rfl, .inl ⟨SqL.of (s9B _ _ hTf), fun eC hC => ?_⟩⟩
          have sC := Same.lay (o := .tup fw) hC
          refine ⟨_, rfl, (by show 3 ≤ sizeLine; decide), fun eD hD' => ?_⟩
          have sD := Same.lay (o := .tup [.str "record", .ref eC, sv]) hD'
          have s9D := s9B.trans (sC.trans sD)
          refine ⟨_, rfl, .ref eD, .tup [.str "record", .tup fs, .tup us], b, rfl, ⟨eD, _, rfl, SqT.of upd_same, _, _, rfl, rfl, _, _, rfl, ⟨eC, fw, rfl, sD.up _ _ (SqT.of upd_same), AreTh.up s9D.upT _ _ afs⟩, _, _, rfl, IsTh.up s9D.upT _ _ isv, rfl⟩, ⟨words2_gd.1, ok.gf, ok.gu, trivial⟩, fun HE sE => ⟨_, rfl, iteN (by rw [ok.rc]; exact askT) ?_⟩⟩
          refine ⟨_, rfl, _, rfl, (by show 4 ≤ sizeLine; decide), fun eF hF => ?_⟩
          have sF := Same.lay (o := .tup [.str "choice", .ref eB, sv, .bl false]) hF
          have sBF := sC.trans (sD.trans (sE.trans sF))
          have s9F := s9B.trans sBF
          refine ⟨_, rfl, .ref eF, .tup [.str "choice", .tup (fs.map armOf), .tup us, .bl false], b, rfl, ⟨eF, _, rfl, SqT.of upd_same, _, _, rfl, rfl, _, _, rfl, ⟨eB, wA, rfl, sBF.up _ _ (SqT.of upd_same), AreTh.up (sB.trans sBF).upT _ _ aA⟩, _, _, rfl, IsTh.up s9F.upT _ _ isv, _, _, rfl, rfl, rfl⟩, ⟨words2_gd.2, ok.ga, ok.gu, trivial, trivial⟩, fun HG sG => ⟨_, rfl, iteN (by rw [ok.cho]; exact askT) ?_⟩⟩
          exact ⟨⟨_, _, _, _, rfl⟩, s9F.trans sG⟩
        · rintro σ H9 ⟨⟨p8, p9, p15, p16, rfl⟩, s9⟩
          have gw : gdT (.str "whole") := lit_gd (by decide +kernel) (by decide +kernel)
          refine ⟨(by show 3 ≤ sizeLine; decide), fun e1 h1 => ?_⟩
          refine ⟨.ref e1, .tup [.str "whole", .int 1, .int 0], false, rfl, ⟨e1, _, rfl, SqT.of upd_same, _, _, rfl, rfl, _, _, rfl, rfl, _, _, rfl, rfl, rfl⟩, ⟨gw, trivial, trivial, trivial⟩, fun HA sA => ⟨_, rfl, iteY (by decide +kernel) ?_⟩⟩
          refine ⟨(by show 3 ≤ sizeLine; decide), fun e2 h2 => ?_⟩
          refine ⟨.ref e2, .tup [.str "whole", .int 0, .int 0], true, rfl, ⟨e2, _, rfl, SqT.of upd_same, _, _, rfl, rfl, _, _, rfl, rfl, _, _, rfl, rfl, rfl⟩, ⟨gw, trivial, trivial, trivial⟩, fun HB sB => ?_⟩
          have e : decide (V.bl (shapeTh (.tup [.str "whole", .int 0, .int 0])) = V.bl true) = true := by decide +kernel
          rw [e]
          exact q HB
end
end K19
namespace K19
open PySem PySem.Spec PyProof.Rows L2 K01
structure FA (K : PySem.W.Frag) (x : Str) (st : Stmt) (f : Addr) (fd : FuncData) : Prop where
  a : PySem.W.nsIn K mainGlobals x = some (some (.ref f))
  F : Fun K x x st f fd
set_option maxHeartbeats 0 in
theorem all_mk {l : PySem.W.OpenLaw} {w : World} {K : PySem.W.Frag} {h : Heap} {mg : Str → Option Value} {fa f1 f2 f3 f4 f5 f6 f7 f8 f9 f10 f11 f12 f13 f14 f15 f16 f17 f18 f19 f20 f21 f22 f23 f24 f25 f26 f27 f28 f29 f30 f31 f32 f33 : Addr} {d1 d2 d3 d4 d5 d6 d7 d8 d9 d10 d11 d12 d13 d14 d15 d16 d17 d18 d19 d20 d21 d22 d23 d24 d25 d26 d27 d28 d29 d30 d31 d32 d33 : FuncData} (X : K.In h) (G : h.Ns mainGlobals mg) (hfa : mg "law" = some (.ref fa))
    {tk0 tk1 tk2 tk3 tk4 tk5 tk6 : Tok}
    (h1 : FA K "is_whole" s_is_whole f1 d1)
    (h2 : FA K "is_item_whole" s_is_item_whole f2 d2)
    (h3 : FA K "is_number" s_is_number f3 d3)
    (h4 : FA K "is_name" s_is_name f4 d4)
    (h5 : FA K "rises" s_rises f5 d5)
    (h6 : FA K "is_shape" s_is_shape f6 d6)
    (h7 : FA K "are_bounds" s_are_bounds f7 d7)
    (h8 : FA K "are_members" s_are_members f8 d8)
    (h9 : FA K "is_struck" s_is_struck f9 d9)
    (h10 : FA K "is_short_tuple" s_is_short_tuple f10 d10)
    (h11 : FA K "is_field" s_is_field f11 d11)
    (h12 : FA K "is_default" s_is_default f12 d12)
    (h13 : FA K "is_arm" s_is_arm f13 d13)
    (h14 : FA K "_law_feed" s_law_feed f14 d14)
    (h15 : FA K "_law_draw" s_law_draw f15 d15)
    (h16 : FA K "_law_is_name" s_law_is_name f16 d16)
    (h17 : FA K "_law_whole" s_law_whole f17 d17)
    (h18 : FA K "_law_rise" s_law_rise f18 d18)
    (h19 : FA K "_law_names" s_law_names f19 d19)
    (h20 : FA K "_law_numbers" s_law_numbers f20 d20)
    (h21 : FA K "_law_plain_shape" s_law_plain_shape f21 d21)
    (h22 : FA K "_law_plain_value" s_law_plain_value f22 d22)
    (h23 : FA K "_law_struck" s_law_struck f23 d23)
    (h24 : FA K "_law_parts" s_law_parts f24 d24)
    (h25 : FA K "_law_make" s_law_make f25 d25)
    (h26 : FA K "_law_odd" s_law_odd f26 d26)
    (h27 : FA K "_law_bent" s_law_bent f27 d27)
    (h28 : FA K "_law_is_part" s_law_is_part f28 d28)
    (h29 : FA K "_law_are_parts" s_law_are_parts f29 d29)
    (h30 : FA K "_law_is_shape" s_law_is_shape f30 d30)
    (h31 : FA K "_law_asked" s_law_asked f31 d31)
    (h32 : FA K "_law_many" s_law_many f32 d32)
    (h33 : FA K "law" s_law f33 d33)
    (y_LETTERS : PySem.W.nsIn K mainGlobals "LETTERS" = some (some (.str "abcdefghijklmnopqrstuvwxyz" tk0)))
    (y_GREATEST_WHOLE : PySem.W.nsIn K mainGlobals "GREATEST_WHOLE" = some (some (.int 1000000000000000000 tk1)))
    (y_GREATEST_NUMBER : PySem.W.nsIn K mainGlobals "GREATEST_NUMBER" = some (some (.int 999 tk2)))
    (y_LONGEST_TEXT : PySem.W.nsIn K mainGlobals "LONGEST_TEXT" = some (some (.int 200 tk3)))
    (y_LONGEST_NAME : PySem.W.nsIn K mainGlobals "LONGEST_NAME" = some (some (.int 8 tk4)))
    (y_MOST_PARTS : PySem.W.nsIn K mainGlobals "MOST_PARTS" = some (some (.int 20 tk5)))
    (y_MOST_FIELDS : PySem.W.nsIn K mainGlobals "MOST_FIELDS" = some (some (.int 8 tk6)))
    (z_len : PySem.W.nsIn K mainGlobals "len" = some none)
    (z_all : PySem.W.nsIn K mainGlobals "all" = some none)
    (z_any : PySem.W.nsIn K mainGlobals "any" = some none)
    (z_max : PySem.W.nsIn K mainGlobals "max" = some none)
    (z_min : PySem.W.nsIn K mainGlobals "min" = some none)
    (z_isinstance : PySem.W.nsIn K mainGlobals "isinstance" = some none)
    (z_tuple : PySem.W.nsIn K mainGlobals "tuple" = some none)
    (z_list : PySem.W.nsIn K mainGlobals "list" = some none)
    (z_set : PySem.W.nsIn K mainGlobals "set" = some none)
    (z_int : PySem.W.nsIn K mainGlobals "int" = some none)
    (z_str : PySem.W.nsIn K mainGlobals "str" = some none)
    (z_bool : PySem.W.nsIn K mainGlobals "bool" = some none)
    (z_dict : PySem.W.nsIn K mainGlobals "dict" = some none)
    (z_range : PySem.W.nsIn K mainGlobals "range" = some none)
    (z_zip : PySem.W.nsIn K mainGlobals "zip" = some none)
    (z_enumerate : PySem.W.nsIn K mainGlobals "enumerate" = some none)
    : ∃ fd : FuncData, (∀ (s : Shared) (v : Value), BindsTo s fd ⟨[v], []⟩ [("_law_script", v)]) ∧ ∀ base : Heap, K.In base → base.Ns mainGlobals mg → FnOk l.prog w K mg base CX0 12 fa fd ["_law_script"] (spLaw K) := by
  have e := hfa.symm.trans (PySem.W.mg_of X G h33.a)
  cases e
  have F_is_whole := h1.F
  have b_is_whole := F_is_whole.binds (ps := ["thing", "low", "high"]) fun _ _ _ _ _ _ us hl => match us, hl with | [_, _, _], _ => rfl
  have m_is_whole := PySem.W.mg_of X G h1.a
  have F_is_item_whole := h2.F
  have b_is_item_whole := F_is_item_whole.binds (ps := ["thing"]) fun _ _ _ _ _ _ us hl => match us, hl with | [_], _ => rfl
  have m_is_item_whole := PySem.W.mg_of X G h2.a
  have F_is_number := h3.F
  have b_is_number := F_is_number.binds (ps := ["thing"]) fun _ _ _ _ _ _ us hl => match us, hl with | [_], _ => rfl
  have m_is_number := PySem.W.mg_of X G h3.a
  have F_is_name := h4.F
  have b_is_name := F_is_name.binds (ps := ["thing"]) fun _ _ _ _ _ _ us hl => match us, hl with | [_], _ => rfl
  have m_is_name := PySem.W.mg_of X G h4.a
  have F_rises := h5.F
  have b_rises := F_rises.binds (ps := ["things"]) fun _ _ _ _ _ _ us hl => match us, hl with | [_], _ => rfl
  have m_rises := PySem.W.mg_of X G h5.a
  have F_is_shape := h6.F
  have b_is_shape := F_is_shape.binds (ps := ["thing"]) fun _ _ _ _ _ _ us hl => match us, hl with | [_], _ => rfl
  have m_is_shape := PySem.W.mg_of X G h6.a
  have F_are_bounds := h7.F
  have b_are_bounds := F_are_bounds.binds (ps := ["low", "high"]) fun _ _ _ _ _ _ us hl => match us, hl with | [_, _], _ => rfl
  have m_are_bounds := PySem.W.mg_of X G h7.a
  have F_are_members := h8.F
  have b_are_members := F_are_members.binds (ps := ["members", "struck", "is_member"]) fun _ _ _ _ _ _ us hl => match us, hl with | [_, _, _], _ => rfl
  have m_are_members := PySem.W.mg_of X G h8.a
  have F_is_struck := h9.F
  have b_is_struck := F_is_struck.binds (ps := ["thing", "taken"]) fun _ _ _ _ _ _ us hl => match us, hl with | [_, _], _ => rfl
  have m_is_struck := PySem.W.mg_of X G h9.a
  have F_is_short_tuple := h10.F
  have b_is_short_tuple := F_is_short_tuple.binds (ps := ["thing"]) fun _ _ _ _ _ _ us hl => match us, hl with | [_], _ => rfl
  have m_is_short_tuple := PySem.W.mg_of X G h10.a
  have F_is_field := h11.F
  have b_is_field := F_is_field.binds (ps := ["thing"]) fun _ _ _ _ _ _ us hl => match us, hl with | [_], _ => rfl
  have m_is_field := PySem.W.mg_of X G h11.a
  have F_is_default := h12.F
  have b_is_default := F_is_default.binds (ps := ["thing"]) fun _ _ _ _ _ _ us hl => match us, hl with | [_], _ => rfl
  have m_is_default := PySem.W.mg_of X G h12.a
  have F_is_arm := h13.F
  have b_is_arm := F_is_arm.binds (ps := ["thing"]) fun _ _ _ _ _ _ us hl => match us, hl with | [_], _ => rfl
  have m_is_arm := PySem.W.mg_of X G h13.a
  have F_law_feed := h14.F
  have b_law_feed := F_law_feed.binds (ps := ["_law_script"]) fun _ _ _ _ _ _ us hl => match us, hl with | [_], _ => rfl
  have m_law_feed := PySem.W.mg_of X G h14.a
  have F_law_draw := h15.F
  have b_law_draw := F_law_draw.binds (ps := ["_law_feed_here", "_law_many_here"]) fun _ _ _ _ _ _ us hl => match us, hl with | [_, _], _ => rfl
  have m_law_draw := PySem.W.mg_of X G h15.a
  have F_law_is_name := h16.F
  have b_law_is_name := F_law_is_name.binds (ps := ["_law_thing"]) fun _ _ _ _ _ _ us hl => match us, hl with | [_], _ => rfl
  have m_law_is_name := PySem.W.mg_of X G h16.a
  have F_law_whole := h17.F
  have b_law_whole := F_law_whole.binds (ps := ["_law_thing", "_law_low", "_law_high"]) fun _ _ _ _ _ _ us hl => match us, hl with | [_, _, _], _ => rfl
  have m_law_whole := PySem.W.mg_of X G h17.a
  have F_law_rise := h18.F
  have b_law_rise := F_law_rise.binds (ps := ["_law_some"]) fun _ _ _ _ _ _ us hl => match us, hl with | [_], _ => rfl
  have m_law_rise := PySem.W.mg_of X G h18.a
  have F_law_names := h19.F
  have b_law_names := F_law_names.binds (ps := ["_law_feed_here", "_law_many_here"]) fun _ _ _ _ _ _ us hl => match us, hl with | [_, _], _ => rfl
  have m_law_names := PySem.W.mg_of X G h19.a
  have F_law_numbers := h20.F
  have b_law_numbers := F_law_numbers.binds (ps := ["_law_feed_here", "_law_most"]) fun _ _ _ _ _ _ us hl => match us, hl with | [_, _], _ => rfl
  have m_law_numbers := PySem.W.mg_of X G h20.a
  have F_law_plain_shape := h21.F
  have b_law_plain_shape := F_law_plain_shape.binds (ps := ["_law_feed_here", "_law_names_here"]) fun _ _ _ _ _ _ us hl => match us, hl with | [_, _], _ => rfl
  have m_law_plain_shape := PySem.W.mg_of X G h21.a
  have F_law_plain_value := h22.F
  have b_law_plain_value := F_law_plain_value.binds (ps := ["_law_feed_here", "_law_shape"]) fun _ _ _ _ _ _ us hl => match us, hl with | [_, _], _ => rfl
  have m_law_plain_value := PySem.W.mg_of X G h22.a
  have F_law_struck := h23.F
  have b_law_struck := F_law_struck.binds (ps := ["_law_feed_here", "_law_numbers_here"]) fun _ _ _ _ _ _ us hl => match us, hl with | [_, _], _ => rfl
  have m_law_struck := PySem.W.mg_of X G h23.a
  have F_law_parts := h24.F
  have b_law_parts := F_law_parts.binds (ps := ["_law_feed_here", "_law_names_here", "_law_shapes"]) fun _ _ _ _ _ _ us hl => match us, hl with | [_, _, _], _ => rfl
  have m_law_parts := PySem.W.mg_of X G h24.a
  have F_law_make := h25.F
  have b_law_make := F_law_make.binds (ps := ["_law_feed_here"]) fun _ _ _ _ _ _ us hl => match us, hl with | [_], _ => rfl
  have m_law_make := PySem.W.mg_of X G h25.a
  have F_law_odd := h26.F
  have b_law_odd := F_law_odd.binds (ps := ["_law_feed_here", "_law_thing"]) fun _ _ _ _ _ _ us hl => match us, hl with | [_, _], _ => rfl
  have m_law_odd := PySem.W.mg_of X G h26.a
  have F_law_bent := h27.F
  have b_law_bent := F_law_bent.binds (ps := ["_law_feed_here", "_law_thing"]) fun _ _ _ _ _ _ us hl => match us, hl with | [_, _], _ => rfl
  have m_law_bent := PySem.W.mg_of X G h27.a
  have F_law_is_part := h28.F
  have b_law_is_part := F_law_is_part.binds (ps := ["_law_thing", "_law_many_here"]) fun _ _ _ _ _ _ us hl => match us, hl with | [_, _], _ => rfl
  have m_law_is_part := PySem.W.mg_of X G h28.a
  have F_law_are_parts := h29.F
  have b_law_are_parts := F_law_are_parts.binds (ps := ["_law_thing", "_law_struck_here", "_law_many_here"]) fun _ _ _ _ _ _ us hl => match us, hl with | [_, _, _], _ => rfl
  have m_law_are_parts := PySem.W.mg_of X G h29.a
  have F_law_is_shape := h30.F
  have b_law_is_shape := F_law_is_shape.binds (ps := ["_law_thing"]) fun _ _ _ _ _ _ us hl => match us, hl with | [_], _ => rfl
  have m_law_is_shape := PySem.W.mg_of X G h30.a
  have F_law_asked := h31.F
  have b_law_asked := F_law_asked.binds (ps := ["_law_thing", "_law_due"]) fun _ _ _ _ _ _ us hl => match us, hl with | [_, _], _ => rfl
  have m_law_asked := PySem.W.mg_of X G h31.a
  have F_law_many := h32.F
  have b_law_many := F_law_many.binds (ps := ["_law_many_here", "_law_arms"]) fun _ _ _ _ _ _ us hl => match us, hl with | [_, _], _ => rfl
  have m_law_many := PySem.W.mg_of X G h32.a
  have F_law := h33.F
  have m : Bn mg := ⟨PySem.W.mg_none_of X G z_len, PySem.W.mg_none_of X G z_all, PySem.W.mg_none_of X G z_any, PySem.W.mg_none_of X G z_max, PySem.W.mg_none_of X G z_min, PySem.W.mg_none_of X G z_isinstance, PySem.W.mg_none_of X G z_tuple, PySem.W.mg_none_of X G z_list, PySem.W.mg_none_of X G z_set, PySem.W.mg_none_of X G z_int, PySem.W.mg_none_of X G z_str, PySem.W.mg_none_of X G z_bool, PySem.W.mg_none_of X G z_dict, PySem.W.mg_none_of X G z_range, PySem.W.mg_none_of X G z_zip, PySem.W.mg_none_of X G z_enumerate⟩
  have c : Cn mg := ⟨⟨_, PySem.W.mg_of X G y_LETTERS⟩, ⟨_, PySem.W.mg_of X G y_GREATEST_WHOLE⟩, ⟨_, PySem.W.mg_of X G y_GREATEST_NUMBER⟩, ⟨_, PySem.W.mg_of X G y_LONGEST_TEXT⟩, ⟨_, PySem.W.mg_of X G y_LONGEST_NAME⟩, ⟨_, PySem.W.mg_of X G y_MOST_PARTS⟩, ⟨_, PySem.W.mg_of X G y_MOST_FIELDS⟩⟩
  obtain ⟨oc, od, kV, doc, pm, an, cdv, ct, osl, rfl, lk, hcd⟩ := F_law.ex
  refine ⟨PySem.W.fnOf "law" "law" (defArgs s_law) (defBody s_law) (defScope s_law) .none kV doc pm an cdv ct, fun s v => .of_eq rfl, fun base _ _ => ?_⟩
  have g_wh : Fn l.prog w K mg base 1 "is_whole" ["thing", "low", "high"] (spWhole K) := ⟨_, _, ok_is_whole F_is_whole m, b_is_whole, F_is_whole.kp, m_is_whole⟩
  have g_iw : Fn l.prog w K mg base 2 "is_item_whole" ["thing"] (spW1 K (-1000000000000000000) 1000000000000000000) := ⟨_, _, ok_is_item_whole F_is_item_whole c g_wh, b_is_item_whole, F_is_item_whole.kp, m_is_item_whole⟩
  have g_nu : Fn l.prog w K mg base 2 "is_number" ["thing"] (spW1 K 1 999) := ⟨_, _, ok_is_number F_is_number c g_wh, b_is_number, F_is_number.kp, m_is_number⟩
  have g_na : Fn l.prog w K mg base 1 "is_name" ["thing"] (spName K) := ⟨_, _, ok_is_name F_is_name m c, b_is_name, F_is_name.kp, m_is_name⟩
  have g_ri : Fn l.prog w K mg base 1 "rises" ["things"] (spRises K) := ⟨_, _, ok_rises F_rises m, b_rises, F_rises.kp, m_rises⟩
  have g_rt : Fn l.prog w K mg base 1 "rises" ["things"] (spRisesT K) := ⟨_, _, ok_risesT F_rises m, b_rises, F_rises.kp, m_rises⟩
  have g_sh : Fn l.prog w K mg base 1 "is_short_tuple" ["thing"] (spB1 K shortTh) := ⟨_, _, ok_is_short_tuple F_is_short_tuple m c, b_is_short_tuple, F_is_short_tuple.kp, m_is_short_tuple⟩
  have g_de : Fn l.prog w K mg base 1 "is_default" ["thing"] (spB1 K defTh) := ⟨_, _, ok_is_default F_is_default m, b_is_default, F_is_default.kp, m_is_default⟩
  have g_ar : Fn l.prog w K mg base 3 "is_arm" ["thing"] (spB1 K armTh) := ⟨_, _, ok_is_arm F_is_arm m g_nu g_na, b_is_arm, F_is_arm.kp, m_is_arm⟩
  have g_fi : Fn l.prog w K mg base 4 "is_field" ["thing"] (spB1 K fieldTh) := ⟨_, _, ok_is_field F_is_field m g_ar g_de, b_is_field, F_is_field.kp, m_is_field⟩
  have g_bo : Fn l.prog w K mg base 3 "are_bounds" ["low", "high"] (spB2 K boundsTh) := ⟨_, _, ok_are_bounds F_are_bounds g_iw, b_are_bounds, F_are_bounds.kp, m_are_bounds⟩
  have g_st : Fn l.prog w K mg base 3 "is_struck" ["thing", "taken"] (spStruck K) := ⟨_, _, ok_is_struck F_is_struck m g_sh g_nu g_rt, b_is_struck, F_is_struck.kp, m_is_struck⟩
  have g_me : Fn l.prog w K mg base 5 "are_members" ["members", "struck", "is_member"] (spMembers l.prog w K mg base) := ⟨_, _, ok_are_members F_are_members m g_sh g_ri g_st, b_are_members, F_are_members.kp, m_are_members⟩
  have l1 : MemF l.prog w K mg base true _ := ⟨4, _, Nat.le_refl _, ok_is_field F_is_field m g_ar g_de, b_is_field, F_is_field.kp⟩
  have l2 : MemF l.prog w K mg base false _ := ⟨3, _, by decide, ok_is_arm F_is_arm m g_nu g_na, b_is_arm, F_is_arm.kp⟩
  have g_is : Fn l.prog w K mg base 6 "is_shape" ["thing"] (spB1 K shapeTh) := ⟨_, _, ok_is_shape F_is_shape m c g_wh g_na g_bo g_me m_is_field m_is_arm l1 l2, b_is_shape, F_is_shape.kp, m_is_shape⟩
  have gf : Fn l.prog w K mg base 1 "_law_feed" ["_law_script"] (spFeed K) := ⟨_, _, ok_feed F_law_feed m, b_law_feed, F_law_feed.kp, m_law_feed⟩
  have gr : Fn l.prog w K mg base 1 "_law_draw" ["_law_feed_here", "_law_many_here"] spDraw := ⟨_, _, ok_draw F_law_draw m, b_law_draw, F_law_draw.kp, m_law_draw⟩
  have g_lw : Fn l.prog w K mg base 1 "_law_whole" ["_law_thing", "_law_low", "_law_high"] (spWhole K) := ⟨_, _, ok_law_whole F_law_whole m, b_law_whole, F_law_whole.kp, m_law_whole⟩
  have g_ln : Fn l.prog w K mg base 1 "_law_is_name" ["_law_thing"] (spName K) := ⟨_, _, ok_law_is_name F_law_is_name m, b_law_is_name, F_law_is_name.kp, m_law_is_name⟩
  have g_lr : Fn l.prog w K mg base 1 "_law_rise" ["_law_some"] (spRise K) := ⟨_, _, ok_rise F_law_rise m, b_law_rise, F_law_rise.kp, m_law_rise⟩
  have g_lp : Fn l.prog w K mg base 2 "_law_is_part" ["_law_thing", "_law_many_here"] (spPart2 K) := ⟨_, _, ok_is_part F_law_is_part m g_lw g_ln, b_law_is_part, F_law_is_part.kp, m_law_is_part⟩
  have g_la : Fn l.prog w K mg base 3 "_law_are_parts" ["_law_thing", "_law_struck_here", "_law_many_here"] (spParts K) := ⟨_, _, ok_are_parts F_law_are_parts m g_lw g_lp g_lr, b_law_are_parts, F_law_are_parts.kp, m_law_are_parts⟩
  have g_ls : Fn l.prog w K mg base 4 "_law_is_shape" ["_law_thing"] (spB1 K shapeTh) := ⟨_, _, ok_law_is_shape F_law_is_shape m g_lw g_ln g_la, b_law_is_shape, F_law_is_shape.kp, m_law_is_shape⟩
  have g_nm : Fn l.prog w K mg base 2 "_law_names" ["_law_feed_here", "_law_many_here"] spNames := ⟨_, _, ok_names F_law_names m gr, b_law_names, F_law_names.kp, m_law_names⟩
  have g_ns : Fn l.prog w K mg base 2 "_law_numbers" ["_law_feed_here", "_law_most"] spNumbers := ⟨_, _, ok_numbers F_law_numbers m gr, b_law_numbers, F_law_numbers.kp, m_law_numbers⟩
  have g_ps : Fn l.prog w K mg base 2 "_law_plain_shape" ["_law_feed_here", "_law_names_here"] (spPlainS K) := ⟨_, _, ok_plain_shape F_law_plain_shape m gr, b_law_plain_shape, F_law_plain_shape.kp, m_law_plain_shape⟩
  have g_pv : Fn l.prog w K mg base 2 "_law_plain_value" ["_law_feed_here", "_law_shape"] (spPlainV K) := ⟨_, _, ok_plain_value F_law_plain_value m gr, b_law_plain_value, F_law_plain_value.kp, m_law_plain_value⟩
  have g_sd : Fn l.prog w K mg base 2 "_law_struck" ["_law_feed_here", "_law_numbers_here"] (spStruckD K) := ⟨_, _, ok_struckD F_law_struck m gr, b_law_struck, F_law_struck.kp, m_law_struck⟩
  have g_pd : Fn l.prog w K mg base 3 "_law_parts" ["_law_feed_here", "_law_names_here", "_law_shapes"] (spPartsD K) := ⟨_, _, ok_partsD F_law_parts m gr g_nm g_ns g_pv, b_law_parts, F_law_parts.kp, m_law_parts⟩
  have g_mk : Fn l.prog w K mg base 4 "_law_make" ["_law_feed_here"] (spMake K) := ⟨_, _, ok_make F_law_make m gr g_nm g_ps g_pd g_sd, b_law_make, F_law_make.kp, m_law_make⟩
  have g_od : Fn l.prog w K mg base 2 "_law_odd" ["_law_feed_here", "_law_thing"] (spOdd K) := ⟨_, _, ok_odd F_law_odd m gr, b_law_odd, F_law_odd.kp, m_law_odd⟩
  have g_be : Fn l.prog w K mg base 11 "_law_bent" ["_law_feed_here", "_law_thing"] (spBentA K) := ⟨_, _, FnOk.any (C := fun n => n ≤ 8) fun n hn => (ok_bent F_law_bent m b_law_bent m_law_bent gr g_od n).mono (by omega), b_law_bent, F_law_bent.kp, m_law_bent⟩
  have g_as : Fn l.prog w K mg base 7 "_law_asked" ["_law_thing", "_law_due"] (spAsked K) := ⟨_, _, ok_asked F_law_asked m g_is, b_law_asked, F_law_asked.kp, m_law_asked⟩
  have g_ma : Fn l.prog w K mg base 1 "_law_many" ["_law_many_here", "_law_arms"] (spMany K) := ⟨_, _, ok_many F_law_many m, b_law_many, F_law_many.kp, m_law_many⟩
  exact ok_law F_law m gf gr g_mk g_as g_be g_ls g_ma
theorem walk {l : PySem.W.OpenLaw} {q : Program} {loose : List Str} {XP : (Str → Option Value) → Heap → Prop} {YP : World → Heap → Prop} {d : DefRec} {K : Params → PySem.W.Frag} (hn : l.most = some 63) (hdf : d.params.defaults = [])
    (hY : ∀ (w : World) (h : Heap), YP w h → (K w.params).In h)
    (F : ∀ (w : World) (mg : Str → Option Value) (fa : Addr) (h : Heap), (K w.params).In h → h.Ns mainGlobals mg → mg d.name = some (.ref fa) →
      ∃ fd : FuncData, (∀ (s : Shared) (u : Value), BindsTo s fd ⟨[u], []⟩ [("_law_script", u)]) ∧ ∀ base : Heap, (K w.params).In base → base.Ns mainGlobals mg → FnOk l.prog w (K w.params) mg base CX0 12 fa fd ["_law_script"] (spLaw (K w.params))) :
    PySem.W.WalkO q loose XP YP l.row.toRowW d [] (fun f vs => PySem.call f vs) :=
  L2.walk_of (n := 63) (k := 12) (x := "_law_script") (CX := fun _ => CX0) (sp := fun w => spLaw (K w.params)) hn (by decide) hdf ⟨rfl, by decide, by decide⟩ hY F (fun _ _ a ns hl _ hS => ⟨a, ns, rfl, hS, hl, fun _ => rfl⟩) fun _ _ _ _ _ z => z
end K19
open PySem PySem.W PyProof.Rows
set_option maxRecDepth 100000 in
set_option maxHeartbeats 0 in
theorem PySem.Challenge.cw_makes_k19_shapes_by_kind_holds : PySem.Challenge.rw_makes_k19_shapes_by_kind.Holds := by
  w_on
  refine holds_law (by kernel_rfl) fun said => ?_
  refine holds_open (q := K19.viewK) (loose := K19.looseK) (XP := XL K19.viewK []) (YP := Hook.says (PySem.W.kHook K19.heapK K19.asK K19.asK_eq)) (N := 2200)
    K19.leftK (Hook.of (PySem.W.kHook K19.heapK K19.asK K19.asK_eq)) (Hook.keeps (PySem.W.kHook K19.heapK K19.asK K19.asK_eq)) (fun s e => xl_of s (Bool.and_eq_true_iff.mp e).1)
    XL.keeps (by rfl) (by rfl) (by rfl) (fun s e => recFacts_of (Bool.and_eq_true_iff.mp e).2) (by rfl) (by assumption)
    (by decide +kernel) ⟨rfl, rfl, rfl, rfl, rfl, by decide +kernel⟩ ?hw ?hc
  case hw => w_witness2
  k_fill
  refine K19.walk (l := PySem.Challenge.rw_makes_k19_shapes_by_kind) rfl rfl (fun w h Y => PySem.W.kIn_of Y) ?F
  case F =>
    intro w mg fa h KX G hmg
    refine' K19.all_mk KX G hmg ?h1 ?h2 ?h3 ?h4 ?h5 ?h6 ?h7 ?h8 ?h9 ?h10 ?h11 ?h12 ?h13 ?h14 ?h15 ?h16 ?h17 ?h18 ?h19 ?h20 ?h21 ?h22 ?h23 ?h24 ?h25 ?h26 ?h27 ?h28 ?h29 ?h30 ?h31 ?h32 ?h33 ?y_LETTERS ?y_GREATEST_WHOLE ?y_GREATEST_NUMBER ?y_LONGEST_TEXT ?y_LONGEST_NAME ?y_MOST_PARTS ?y_MOST_FIELDS ?z_len ?z_all ?z_any ?z_max ?z_min ?z_isinstance ?z_tuple ?z_list ?z_set ?z_int ?z_str ?z_bool ?z_dict ?z_range ?z_zip ?z_enumerate
    (case h1 => exact ⟨by k_is, L2.fun_mk (by k_is) (by k_is) (by k_is)⟩); (case h2 => exact ⟨by k_is, L2.fun_mk (by k_is) (by k_is) (by k_is)⟩)
    (case h3 => exact ⟨by k_is, L2.fun_mk (by k_is) (by k_is) (by k_is)⟩); (case h4 => exact ⟨by k_is, L2.fun_mk (by k_is) (by k_is) (by k_is)⟩)
    (case h5 => exact ⟨by k_is, L2.fun_mk (by k_is) (by k_is) (by k_is)⟩); (case h6 => exact ⟨by k_is, L2.fun_mk (by k_is) (by k_is) (by k_is)⟩)
    (case h7 => exact ⟨by k_is, L2.fun_mk (by k_is) (by k_is) (by k_is)⟩); (case h8 => exact ⟨by k_is, L2.fun_mk (by k_is) (by k_is) (by k_is)⟩)
    (case h9 => exact ⟨by k_is, L2.fun_mk (by k_is) (by k_is) (by k_is)⟩); (case h10 => exact ⟨by k_is, L2.fun_mk (by k_is) (by k_is) (by k_is)⟩)
    (case h11 => exact ⟨by k_is, L2.fun_mk (by k_is) (by k_is) (by k_is)⟩); (case h12 => exact ⟨by k_is, L2.fun_mk (by k_is) (by k_is) (by k_is)⟩)
    (case h13 => exact ⟨by k_is, L2.fun_mk (by k_is) (by k_is) (by k_is)⟩); (case h14 => exact ⟨by k_is, L2.fun_mk (by k_is) (by k_is) (by k_is)⟩)
    (case h15 => exact ⟨by k_is, L2.fun_mk (by k_is) (by k_is) (by k_is)⟩); (case h16 => exact ⟨by k_is, L2.fun_mk (by k_is) (by k_is) (by k_is)⟩)
    (case h17 => exact ⟨by k_is, L2.fun_mk (by k_is) (by k_is) (by k_is)⟩); (case h18 => exact ⟨by k_is, L2.fun_mk (by k_is) (by k_is) (by k_is)⟩)
    (case h19 => exact ⟨by k_is, L2.fun_mk (by k_is) (by k_is) (by k_is)⟩); (case h20 => exact ⟨by k_is, L2.fun_mk (by k_is) (by k_is) (by k_is)⟩)
    (case h21 => exact ⟨by k_is, L2.fun_mk (by k_is) (by k_is) (by k_is)⟩); (case h22 => exact ⟨by k_is, L2.fun_mk (by k_is) (by k_is) (by k_is)⟩)
    (case h23 => exact ⟨by k_is, L2.fun_mk (by k_is) (by k_is) (by k_is)⟩); (case h24 => exact ⟨by k_is, L2.fun_mk (by k_is) (by k_is) (by k_is)⟩)
    (case h25 => exact ⟨by k_is, L2.fun_mk (by k_is) (by k_is) (by k_is)⟩); (case h26 => exact ⟨by k_is, L2.fun_mk (by k_is) (by k_is) (by k_is)⟩)
    (case h27 => exact ⟨by k_is, L2.fun_mk (by k_is) (by k_is) (by k_is)⟩); (case h28 => exact ⟨by k_is, L2.fun_mk (by k_is) (by k_is) (by k_is)⟩)
    (case h29 => exact ⟨by k_is, L2.fun_mk (by k_is) (by k_is) (by k_is)⟩); (case h30 => exact ⟨by k_is, L2.fun_mk (by k_is) (by k_is) (by k_is)⟩)
    (case h31 => exact ⟨by k_is, L2.fun_mk (by k_is) (by k_is) (by k_is)⟩); (case h32 => exact ⟨by k_is, L2.fun_mk (by k_is) (by k_is) (by k_is)⟩)
    (case h33 => exact ⟨by k_is, L2.fun_mk (by k_is) (by k_is) (by k_is)⟩); (case y_LETTERS => k_is); (case y_GREATEST_WHOLE => k_is); (case y_GREATEST_NUMBER => k_is); (case y_LONGEST_TEXT => k_is)
    (case y_LONGEST_NAME => k_is); (case y_MOST_PARTS => k_is); (case y_MOST_FIELDS => k_is); (case z_len => k_is); (case z_all => k_is); (case z_any => k_is); (case z_max => k_is); (case z_min => k_is)
    (case z_isinstance => k_is); (case z_tuple => k_is); (case z_list => k_is); (case z_set => k_is); (case z_int => k_is); (case z_str => k_is); (case z_bool => k_is); (case z_dict => k_is)
    (case z_range => k_is); (case z_zip => k_is); (case z_enumerate => k_is)
