import PyProof.Rows.All
import Wide.All
import OpenK.AllK
import Wide.FinOn
import Lean
import PyProof.EqAt
import PyProof.EqKinds
import PyProof.NeKinds
import PyProof.TupleCall
import PyProof.Rows.SetFrom
import PyProof.CollectWalk
import PyProof.DictIter
import PyProof.Rows.SortShell
import KE.KDictSum
import PyProof.Rows.SortStr
import PyProof.ZipIter
import KE.KItemsList
import PyProof.Rows.SumAny
import PyProof.Rows.StrJoin2
import PyProof.Rows.ZipGen
import PyProof.ConsumeWalk
import PyProof.FString5
import PyProof.StrOps2
import PyProof.StrWalks
import PyProof.FactsAll.dict
import PyProof.TupleOps
import KE.KRevIter
import PyProof.ListNew
import PyProof.TupleOfGen
import PyProof.Rows.SeqMore
import PyProof.MeetsSeq2
import PyProof.FactsAll.tuple
import PyProof.FactsAll.list
import OpenK.KTop
import KE.KIsAll
import PyProof.Draws
import PyProof.EnumMake
import PyProof.EnumFor
import PyProof.AutoSeq1
import PyProof.ListRange
import PyProof.StationsW
import PyProof.RulesAs
import PyProof.ExcClass2
import PyProof.Ns1
import PyProof.NsCount
import PyProof.Slots
import PyProof.ExcArgs
import OpenK.KDescr
import OpenK.KMake
import PyProof.InstStoreFacts
import PyProof.ExcBaseAll.ValueError
import OpenK.KOwn
import PyProof.NsDelKeeps
import PyProof.StrBlockG
import PyProof.AutoListH
import KE.KItemsList
import KE.KSortKey
import KE.KTops
import OpenK.AllK
import PyProof.DictIter
import PyProof.DictWalks
import PyProof.FactsAll.set
import PyProof.ReprDict
import PyProof.ReprLen
import PyProof.Rows.All
import PyProof.Rows.ListMul
import PyProof.SetRoads
import PyProof.StrLawsRepr
import PyProof.ZipIter
import Wide.All
import PySem.Challenge.RW_makes_k24_values_written
set_option Elab.async false
set_option linter.all false
set_option maxRecDepth 100000
local macro_rules | `(tactic| trivial) => `(tactic| first | exact .inl rfl | exact .inr rfl | rfl | decide | (intro _; rfl) | exact Or.inl rfl | exact Or.inr rfl | assumption | exact ⟨rfl, rfl, rfl, by decide +kernel, rfl, by decide +kernel, by decide +kernel⟩ | fail)
namespace L2
open PySem PySem.Spec PyProof.Rows
def inClass (s:Stmt) (j:Nat):Stmt:=match s with
 | .ClassDef _ _ _ body _ _ _ _ _ _ _=>body.getD j (.Pass ⟨0,0,0,0⟩)
 | _=>.Pass ⟨0,0,0,0⟩
def defArgs (s:Stmt):Arguments:=match s with
 | .FunctionDef _ a _ _ _ _ _ _ _ _=>a
 | _=>{ posonlyargs:=[],args:=[],vararg:=none,kwonlyargs:=[],kw_defaults:=[],kwarg:=none,defaults:=[] }
def V2 (s:Stmt):List Stmt:=match s with
 | .FunctionDef _ _ b _ _ _ _ _ _ _=>b
 | _=>[]
def Zf (s:Stmt):Scope:=match s with
 | .FunctionDef _ _ _ _ _ _ sc _ _ _=>sc
 | _=>{ kind:=.function,names:=[],isGenerator:=false,isCoroutine:=false }
end L2
namespace K24
open PySem PySem.Spec PyProof.Rows
def top (i:Nat):Stmt:=PySem.Challenge.pw_makes_k24_values_written.main.body.getD i (.Pass ⟨0,0,0,0⟩)
end K24
namespace L2
open PySem PySem.W PySem.Calls PyProof.Rows
section
variable {tb:String->Option Builtin} {p:Program} {w:World} {m:Nat} {a:Option Value}
def runT (tb:String->Option Builtin) (p:Program) (w:World) (m:Nat) (a:Option Value):Nat->SharedT->Thread->Option SharedT
 | 0,_,_=>none
 | k+1,s,t=>bif through t then some s else bif stepOk m a t then (match stepT (denote tb) p w s t with | some (s',t')=>runT tb p w m a k s' t' | none=>none) else none
theorem runT_of:∀ {k:Nat} {s s':SharedT} {t:Thread},runT tb p w m a k s t=some s'->topRun tb p w m a k s.abs t=some s'.abs
 | 0,_,_,_,h=>by cases h
 | k+1,s,s',t,h=>by
  unfold runT at h
  unfold topRun
  cases ht:through t with
  | true=>rw [ht] at h; cases h; rfl
  | false =>
   rw [ht] at h
   cases hk:stepOk m a t with
   | false=>rw [hk] at h; cases h
   | true =>
    rw [hk] at h
    cases hs:stepT (denote tb) p w s t with
    | none=>rw [hs] at h; cases h
    | some r =>
     obtain ⟨s₂,t₂⟩:=r
     rw [hs] at h
     rw [stepT_spec hs]
     exact runT_of h
end
def mkT:List Obj->Nat->BT->BT
 | [],_,t=>t
 | o::l,i,t=>mkT l (i+1) (t.ins i o)
noncomputable abbrev boot0 (w:World) (os:OsState):Shared:=⟨boot_heap w.params,Array.mk [],boot_drawn,boot_toks,os⟩
noncomputable abbrev bootT (w:World) (os:OsState):SharedT:=⟨mkT (boot_heap w.params).objs.toList 0 .nil,(boot_heap w.params).objs.size,(boot_heap w.params).life,Array.mk [],boot_drawn,boot_toks,os⟩
theorem boot_abs (w:World) (os:OsState):(bootT w os).abs=boot0 w os:=by kernel_rfl
noncomputable abbrev goT (p:Program) (N:Nat) (w:World) (os:OsState):Option SharedT:=runT treeTable p w (boot_heap w.params).objs.size ((boot_heap w.params).nsMap mainGlobals "__annotations__") N (bootT w os) (topStub p)
noncomputable abbrev chkT (p:Program) (w:World) (s:Shared):Bool:=staticsOk (importedModules p.main.body) (boot_heap w.params) s.heap && namesBound p s.heap && gensDone s && laidKept (boot_heap w.params) s.heap
theorem ns_ok (w:World):((boot_heap w.params).isNs mainGlobals && (Array.mk []:Array GenState).size == 0)=true:=by kernel_rfl
theorem map_abs {α:Type _} {o:Option SharedT} {f:Shared->α} {r:α} (h:(o.map fun s=>f s.abs)=some r):∃ s,o=some s/\f s.abs=r:=by
 obtain ⟨s,e,q⟩:=Option.map_eq_some_iff.mp h
 exact ⟨s,e,q⟩
theorem top_of {α β:Type} {p:Program} {N:Nat} {w:World} {os:OsState} {f:Shared->α} {g:Shared->β} {x:α} {y:β} (h1:((goT p N w os).map fun s=>chkT p w s.abs)=some true)
  (h2:((goT p N w os).map fun s=>f s.abs)=some x) (h3:((goT p N w os).map fun s=>g s.abs)=some y) :
  (topFrom treeTable p w N (boot0 w os)).map (fun s=>(f s,g s))=some (x,y):=by
 obtain ⟨s,e,c⟩:=map_abs h1
 obtain ⟨s2,e2,c2⟩:=map_abs h2
 obtain ⟨s3,e3,c3⟩:=map_abs h3
 rw [e] at e2 e3
 cases e2
 cases e3
 have r:=runT_of e
 rw [boot_abs] at r
 unfold topFrom
 rw [show ((boot0 w os).heap.isNs mainGlobals && (boot0 w os).gens.size == 0)=true from ns_ok w]
 show Option.map _ (Option.bind (topRun treeTable p w (boot_heap w.params).objs.size ((boot_heap w.params).nsMap mainGlobals "__annotations__") N (boot0 w os) (topStub p)) _)=_
 rw [r]
 show Option.map _ (match chkT p w s.abs with | true=>some s.abs | false=>none)=_
 rw [c]
 show some (f s.abs,g s.abs)=_
 rw [c2,c3]
end L2
namespace K24
open PySem PySem.Spec PyProof.Rows L2
def viewK:Program:={ PySem.Challenge.pw_makes_k24_values_written with main:={ PySem.Challenge.pw_makes_k24_values_written.main with body:=[top 1,top 3,top 5,top 6,top 8,top 9,top 10,top 11,top 12,top 13,top 14,top 15,top 16,top 17,top 18,top 19,top 20,top 21,top 22] } }
def Vx:List Str:=[]
abbrev en (P:Params) (x:Str) (t:Tok) (v:Value):DictEntry:=⟨PyData.keyHash P x,.str x t,v⟩
abbrev fo (cls:Value) (nm q:Str) (s:Stmt) (kw doc pm:Value) (an:Option Addr) (cd ct:Value) (sl:Array (Option Value)):Obj:=⟨cls,none,.func (W.fnOf nm q (L2.defArgs s) (L2.V2 s) (L2.Zf s) .none kw doc pm an cd ct),sl⟩
abbrev fn (nm q:Str) (s:Stmt) (md:Str) (t:Nat) (c:Addr):Obj:=fo (.type "function") nm q s .none .none (.str md t) .none (.ref c) .none #[]
abbrev cd (x:Str) (a:Nat) (q:Str) (b c:Nat) (l k:Int) (r1 r2 r3 r4 r5:Addr) (e f:Int) (g:Nat):Obj:=⟨.type "code",.none,.fields #[.str x a,.str q b,.str "/claim/cut.py" c,.int l 0,.int k 0,.int 0 0,.int 0 0,.int 3 0,.ref r1,.bool Bool.true,.int 181 0,.ref r2,.none,.ref r3,.ref r4,.ref r5,.int e 0,.int f 0,.str "/claim/cut.py" g], #[]⟩
noncomputable def heapK1:Params->W.Frag:=fun P =>
 (nat_lit 4,⟨.type "module",some 0,.plain, #[]⟩) ::
 (nat_lit 3,⟨.type "dict",.none,.dict #[en P "__name__" 165 (.str "law_makes_k24_values_written" 222),en P "__doc__" 166 (.none),en P "__package__" 167 (.none),en P "__loader__" 168 (.builtin "__main__.__loader__#opaque"),en P "__spec__" 169 (.none),en P "__annotations__" 170 (.ref 6),en P "__builtins__" 171 (.ref 4),en P "__file__" 173 (.str "/claim/cut.py" 172),en P "__cached__" 174 (.none),en P "member_of" 197 (.ref 21),en P "form_of" 207 (.ref 28),en P "written" 215 (.ref 33),en P "written_fields" 221 (.ref 38),en P "_law_feed" 230 (.ref 45),en P "_law_draw" 242 (.ref 52),en P "_law_names" 248 (.ref 57),en P "_law_numbers" 254 (.ref 62),en P "_law_plain_shape" 265 (.ref 69),en P "_law_plain_value" 273 (.ref 76),en P "_law_struck" 279 (.ref 81),en P "_law_parts" 294 (.ref 88),en P "_law_make" 300 (.ref 93),en P "_law_value" 306 (.ref 98),en P "_law_record" 322 (.ref 105),en P "_law_item" 328 (.ref 110),en P "_law_wild" 334 (.ref 115),en P "_law_item_of" 340 (.ref 120),en P "law" 355 (.ref 127)] 28, #[]⟩) ::
 (nat_lit 20,cd "member_of" 189 "member_of" 190 191 2 2 15 16 17 18 19 195 2 196) ::
 (nat_lit 21,fn "member_of" "member_of" (top 1) "makes.shapes" 187 20) ::
 (nat_lit 27,cd "form_of" 200 "form_of" 201 202 8 2 22 23 24 25 26 205 8 206) ::
 (nat_lit 28,fn "form_of" "form_of" (top 3) "makes.forms" 198 27) ::
 (nat_lit 32,⟨.type "code",.none,.fields #[.str "written" 210,.str "written" 211,.str "/claim/cut.py" 212,.int 11 0,.int 3 0,.int 0 0,.int 0 0,.int 3 0,.ref 29,.bool Bool.true,.int 181 0,.ref 30,.none,.none,.none,.ref 31,.int 213 0,.int 11 0,.str "/claim/cut.py" 214], #[]⟩) ::
 (nat_lit 33,fn "written" "written" (top 5) "makes.writing" 208 32) ::
 (nat_lit 37,⟨.type "code",.none,.fields #[.str "written_fields" 216,.str "written_fields" 217,.str "/claim/cut.py" 218,.int 27 0,.int 2 0,.int 0 0,.int 0 0,.int 3 0,.ref 34,.bool Bool.true,.int 181 0,.ref 35,.none,.none,.none,.ref 36,.int 219 0,.int 27 0,.str "/claim/cut.py" 220], #[]⟩) ::
 (nat_lit 38,fn "written_fields" "written_fields" (top 6) "makes.writing" 208 37) ::
 (nat_lit 44,cd "_law_feed" 224 "_law_feed" 225 226 30 1 39 40 41 42 43 228 30 229) ::
 (nat_lit 45,fn "_law_feed" "_law_feed" (top 8) "law_makes_k24_values_written" 222 44) ::
 (nat_lit 51,cd "_law_draw" 231 "_law_draw" 232 233 32 2 46 47 48 49 50 240 32 241) ::
 (nat_lit 52,fn "_law_draw" "_law_draw" (top 9) "law_makes_k24_values_written" 222 51) ::
 (nat_lit 56,⟨.type "code",.none,.fields #[.str "_law_names" 243,.str "_law_names" 244,.str "/claim/cut.py" 245,.int 46 0,.int 2 0,.int 0 0,.int 0 0,.int 3 0,.ref 53,.bool Bool.true,.int 181 0,.ref 54,.none,.none,.none,.ref 55,.int 246 0,.int 46 0,.str "/claim/cut.py" 247], #[]⟩) ::
 (nat_lit 57,fn "_law_names" "_law_names" (top 10) "law_makes_k24_values_written" 222 56) ::
 (nat_lit 61,⟨.type "code",.none,.fields #[.str "_law_numbers" 249,.str "_law_numbers" 250,.str "/claim/cut.py" 251,.int 51 0,.int 2 0,.int 0 0,.int 0 0,.int 3 0,.ref 58,.bool Bool.true,.int 181 0,.ref 59,.none,.none,.none,.ref 60,.int 252 0,.int 51 0,.str "/claim/cut.py" 253], #[]⟩) ::
 (nat_lit 62,fn "_law_numbers" "_law_numbers" (top 11) "law_makes_k24_values_written" 222 61) ::
 (nat_lit 68,cd "_law_plain_shape" 255 "_law_plain_shape" 256 257 54 2 63 64 65 66 67 263 54 264) ::
 (nat_lit 69,fn "_law_plain_shape" "_law_plain_shape" (top 12) "law_makes_k24_values_written" 222 68) ::
 (nat_lit 75,cd "_law_plain_value" 266 "_law_plain_value" 267 268 65 2 70 71 72 73 74 271 65 272) ::
 (nat_lit 76,fn "_law_plain_value" "_law_plain_value" (top 13) "law_makes_k24_values_written" 222 75) ::
 (nat_lit 80,⟨.type "code",.none,.fields #[.str "_law_struck" 274,.str "_law_struck" 275,.str "/claim/cut.py" 276,.int 73 0,.int 2 0,.int 0 0,.int 0 0,.int 3 0,.ref 77,.bool Bool.true,.int 181 0,.ref 78,.none,.none,.none,.ref 79,.int 277 0,.int 73 0,.str "/claim/cut.py" 278], #[]⟩) ::
 (nat_lit 81,fn "_law_struck" "_law_struck" (top 14) "law_makes_k24_values_written" 222 80) ::
 (nat_lit 87,cd "_law_parts" 280 "_law_parts" 281 282 75 3 82 83 84 85 86 292 75 293) ::
 (nat_lit 88,fn "_law_parts" "_law_parts" (top 15) "law_makes_k24_values_written" 222 87) ::
 (nat_lit 92,⟨.type "code",.none,.fields #[.str "_law_make" 295,.str "_law_make" 296,.str "/claim/cut.py" 297,.int 85 0,.int 1 0,.int 0 0,.int 0 0,.int 3 0,.ref 89,.bool Bool.true,.int 181 0,.ref 90,.none,.none,.none,.ref 91,.int 298 0,.int 85 0,.str "/claim/cut.py" 299], #[]⟩) ::
 (nat_lit 93,fn "_law_make" "_law_make" (top 16) "law_makes_k24_values_written" 222 92) ::
 (nat_lit 97,⟨.type "code",.none,.fields #[.str "_law_value" 301,.str "_law_value" 302,.str "/claim/cut.py" 303,.int 102 0,.int 4 0,.int 0 0,.int 0 0,.int 3 0,.ref 94,.bool Bool.true,.int 181 0,.ref 95,.none,.none,.none,.ref 96,.int 304 0,.int 102 0,.str "/claim/cut.py" 305], #[]⟩) ::
 (nat_lit 98,fn "_law_value" "_law_value" (top 17) "law_makes_k24_values_written" 222 97) ::
 (nat_lit 104,cd "_law_record" 307 "_law_record" 308 309 125 4 99 100 101 102 103 320 125 321) ::
 (nat_lit 105,fn "_law_record" "_law_record" (top 18) "law_makes_k24_values_written" 222 104) ::
 (nat_lit 109,⟨.type "code",.none,.fields #[.str "_law_item" 323,.str "_law_item" 324,.str "/claim/cut.py" 325,.int 135 0,.int 2 0,.int 0 0,.int 0 0,.int 3 0,.ref 106,.bool Bool.true,.int 181 0,.ref 107,.none,.none,.none,.ref 108,.int 326 0,.int 135 0,.str "/claim/cut.py" 327], #[]⟩) ::
 (nat_lit 110,fn "_law_item" "_law_item" (top 19) "law_makes_k24_values_written" 222 109) ::
 (nat_lit 114,⟨.type "code",.none,.fields #[.str "_law_wild" 329,.str "_law_wild" 330,.str "/claim/cut.py" 331,.int 149 0,.int 4 0,.int 0 0,.int 0 0,.int 3 0,.ref 111,.bool Bool.true,.int 181 0,.ref 112,.none,.none,.none,.ref 113,.int 332 0,.int 149 0,.str "/claim/cut.py" 333], #[]⟩) ::
 (nat_lit 115,fn "_law_wild" "_law_wild" (top 20) "law_makes_k24_values_written" 222 114) ::
 (nat_lit 119,⟨.type "code",.none,.fields #[.str "_law_item_of" 335,.str "_law_item_of" 336,.str "/claim/cut.py" 337,.int 168 0,.int 3 0,.int 0 0,.int 0 0,.int 3 0,.ref 116,.bool Bool.true,.int 181 0,.ref 117,.none,.none,.none,.ref 118,.int 338 0,.int 168 0,.str "/claim/cut.py" 339], #[]⟩) ::
 (nat_lit 120,fn "_law_item_of" "_law_item_of" (top 21) "law_makes_k24_values_written" 222 119) ::
 (nat_lit 126,cd "law" 341 "law" 342 343 186 1 121 122 123 124 125 353 186 354) ::
 (nat_lit 127,fn "law" "law" (top 22) "law_makes_k24_values_written" 222 126) ::
 []
noncomputable def heapK:Params->W.Frag:=fun P=>(nat_lit 30,⟨.none,none,.fields #[], #[]⟩)::heapK1 P
theorem no_tab (P:Params):(heapK1 P).lookup 30=none:=by kernel_rfl
def asK:List Addr:=[30,4,3,20,21,27,28,32,33,37,38,44,45,51,52,56,57,61,62,68,69,75,76,80,81,87,88,92,93,97,98,104,105,109,110,114,115,119,120,126,127]
theorem asK_eq (P:Params):asK=(heapK P).map (·.1):=by kernel_rfl
noncomputable abbrev hookK:W.Hook:=W.kHook heapK asK asK_eq
abbrev xtK (s:Shared):Bool:=W.xlAt viewK [] s && W.recOk (W.RowW.records PySem.Challenge.rw_makes_k24_values_written.row.toRowW) s
abbrev LeftAt (w:World):Prop:=(W.openEnds treeTable PySem.Challenge.pw_makes_k24_values_written w 1316).map (fun s=>(W.openSeen viewK Vx (importedModules PySem.Challenge.pw_makes_k24_values_written.main.body) xtK true s,hookK.obs s))=some (W.openGood viewK Vx,hookK.val w)
abbrev seenK (s:Shared):=W.openSeen viewK Vx (importedModules PySem.Challenge.pw_makes_k24_values_written.main.body) xtK true s
abbrev wK (w:World) (b:Bool):World:=w.withFollow "special-get-raises" b
theorem chkF (w:World) (os:OsState):((L2.goT PySem.Challenge.pw_makes_k24_values_written 1316 (wK w false) os).map fun s=>L2.chkT PySem.Challenge.pw_makes_k24_values_written (wK w false) s.abs)=some true:=by kernel_rfl
theorem chkR (w:World) (os:OsState):((L2.goT PySem.Challenge.pw_makes_k24_values_written 1316 (wK w true) os).map fun s=>L2.chkT PySem.Challenge.pw_makes_k24_values_written (wK w true) s.abs)=some true:=by kernel_rfl
theorem seenF1 (w:World) (os:OsState):((L2.goT PySem.Challenge.pw_makes_k24_values_written 1316 (wK w false) os).map fun s=>(seenK s.abs).1)=some (W.openGood viewK Vx).1:=by kernel_rfl
theorem seenF2 (w:World) (os:OsState):((L2.goT PySem.Challenge.pw_makes_k24_values_written 1316 (wK w false) os).map fun s=>(seenK s.abs).2.1)=some (W.openGood viewK Vx).2.1:=by kernel_rfl
theorem seenF3 (w:World) (os:OsState):((L2.goT PySem.Challenge.pw_makes_k24_values_written 1316 (wK w false) os).map fun s=>(seenK s.abs).2.2)=some (W.openGood viewK Vx).2.2:=by kernel_rfl
theorem seenT1 (w:World) (os:OsState):((L2.goT PySem.Challenge.pw_makes_k24_values_written 1316 (wK w true) os).map fun s=>(seenK s.abs).1)=some (W.openGood viewK Vx).1:=by kernel_rfl
theorem seenT2 (w:World) (os:OsState):((L2.goT PySem.Challenge.pw_makes_k24_values_written 1316 (wK w true) os).map fun s=>(seenK s.abs).2.1)=some (W.openGood viewK Vx).2.1:=by kernel_rfl
theorem seenT3 (w:World) (os:OsState):((L2.goT PySem.Challenge.pw_makes_k24_values_written 1316 (wK w true) os).map fun s=>(seenK s.abs).2.2)=some (W.openGood viewK Vx).2.2:=by kernel_rfl
theorem seen_of {w:World} {os:OsState} (h1:((L2.goT PySem.Challenge.pw_makes_k24_values_written 1316 w os).map fun s=>(seenK s.abs).1)=some (W.openGood viewK Vx).1) (h2:((L2.goT PySem.Challenge.pw_makes_k24_values_written 1316 w os).map fun s=>(seenK s.abs).2.1)=some (W.openGood viewK Vx).2.1)
  (h3:((L2.goT PySem.Challenge.pw_makes_k24_values_written 1316 w os).map fun s=>(seenK s.abs).2.2)=some (W.openGood viewK Vx).2.2):((L2.goT PySem.Challenge.pw_makes_k24_values_written 1316 w os).map fun s=>seenK s.abs)=some (W.openGood viewK Vx):=by
 obtain ⟨s,e,c1⟩:=L2.map_abs (f:=fun s=>(seenK s).1) h1
 obtain ⟨s2,e2,c2⟩:=L2.map_abs (f:=fun s=>(seenK s).2.1) h2
 obtain ⟨s3,e3,c3⟩:=L2.map_abs (f:=fun s=>(seenK s).2.2) h3
 rw [e] at e2 e3
 cases e2
 cases e3
 rw [e]
 exact congrArg some (Prod.ext c1 (Prod.ext c2 c3))
theorem seenF (w:World) (os:OsState):((L2.goT PySem.Challenge.pw_makes_k24_values_written 1316 (wK w false) os).map fun s=>seenK s.abs)=some (W.openGood viewK Vx):=seen_of (seenF1 w os) (seenF2 w os) (seenF3 w os)
theorem seenT (w:World) (os:OsState):((L2.goT PySem.Challenge.pw_makes_k24_values_written 1316 (wK w true) os).map fun s=>seenK s.abs)=some (W.openGood viewK Vx):=seen_of (seenT1 w os) (seenT2 w os) (seenT3 w os)
theorem obsF (w:World) (os:OsState):((L2.goT PySem.Challenge.pw_makes_k24_values_written 1316 (wK w false) os).map fun s=>hookK.obs s.abs)=some (hookK.val (wK w false)):=by kernel_rfl
theorem obsT (w:World) (os:OsState):((L2.goT PySem.Challenge.pw_makes_k24_values_written 1316 (wK w true) os).map fun s=>hookK.obs s.abs)=some (hookK.val (wK w true)):=by kernel_rfl
theorem left_of (w:World) (h1:∀ os,((L2.goT PySem.Challenge.pw_makes_k24_values_written 1316 w os).map fun s=>L2.chkT PySem.Challenge.pw_makes_k24_values_written w s.abs)=some true) (h2:∀ os,((L2.goT PySem.Challenge.pw_makes_k24_values_written 1316 w os).map fun s=>seenK s.abs)=some (W.openGood viewK Vx)) (h3:∀ os,((L2.goT PySem.Challenge.pw_makes_k24_values_written 1316 w os).map fun s=>hookK.obs s.abs)=some (hookK.val w)):LeftAt w:=by
 obtain ⟨⟨hp,g,d,k,os⟩,hs,hv⟩:=Option.map_eq_some_iff.mp (W.boot_open (p:=PySem.Challenge.pw_makes_k24_values_written) (N:=1316) rfl (by decide) (fun s=>rfl) w)
 simp only [Prod.mk.injEq] at hv
 obtain ⟨rfl,rfl,rfl,rfl⟩:=hv
 show Option.map _ (Option.bind (W.fencedOpening treeTable PySem.Challenge.pw_makes_k24_values_written w 1316) (W.topFrom treeTable PySem.Challenge.pw_makes_k24_values_written w 1316))=_
 rw [hs]
 exact L2.top_of (h1 os) (h2 os) (h3 os)
theorem leftF (w:World):LeftAt (w.withFollow "special-get-raises" false):=left_of _ (chkF w) (seenF w) (obsF w)
theorem leftT (w:World):LeftAt (w.withFollow "special-get-raises" true):=left_of _ (chkR w) (seenT w) (obsT w)
theorem leftK:W.LeftO PySem.Challenge.pw_makes_k24_values_written viewK Vx xtK hookK.obs hookK.val 1316:=W.byRow2 "special-get-raises" leftF leftT
end K24
namespace L2
open PySem PySem.Spec PyProof.Rows
abbrev Yt:=Sum Int Str
def keyIs:Yt->Value->Bool
 | .inl k,v=>Value.isInt k v
 | .inr x,v=>Value.isStrOf x v
def keyH (w:World):Yt->Int
 | .inl k=>hashInt k
 | .inr x=>hashStr w x
theorem Ym:∀ {k:Yt} {v:Value},keyIs k v=true->(∃ i t,k=Sum.inl i/\v=Value.int i t)\/(∃ x t,k=Sum.inr x/\v=Value.str x t)
 | .inl i,v,h=>by
  obtain ⟨t,e⟩:=Value.isInt_shape (k:=i) (v:=v) h
  exact .inl ⟨i,t,rfl,e⟩
 | .inr x,v,h=>by
  obtain ⟨t,e⟩:=Value.isStrOf_shape (x:=x) (v:=v) h
  exact .inr ⟨x,t,rfl,e⟩
theorem keyIs_int (i:Int) (t:Tok):keyIs (.inl i) (.int i t)=true:=by simp [keyIs,Value.isInt]
theorem keyIs_str (x:Str) (t:Tok):keyIs (.inr x) (.str x t)=true:=by simp [keyIs,Value.isStrOf]
theorem key_ll (a b:Int):decide ((Sum.inl a:Yt)=Sum.inl b)=(a == b):=by
 by_cases e:a=b
 ·subst e; simp
 ·have h:¬ (Sum.inl a:Yt)=Sum.inl b:=fun q=>e (Sum.inl.inj q)
  rw [decide_eq_false h]
  exact (beq_eq_false_iff_ne.mpr e).symm
theorem key_rr (a b:Str):decide ((Sum.inr a:Yt)=Sum.inr b)=decide (a=b):=by
 by_cases e:a=b
 ·subst e; simp
 ·have h:¬ (Sum.inr a:Yt)=Sum.inr b:=fun q=>e (Sum.inr.inj q)
  rw [decide_eq_false h,decide_eq_false e]
theorem key_lr (a:Int) (b:Str):decide ((Sum.inl a:Yt)=Sum.inr b)=false:=decide_eq_false (fun q=>nomatch q)
theorem key_rl (a:Str) (b:Int):decide ((Sum.inr a:Yt)=Sum.inl b)=false:=decide_eq_false (fun q=>nomatch q)
def Z8 (prog:Program) (w:World):PySem.KeyKind prog w Yt where
 is:=keyIs
 hash:=keyH w
 inj:=fun v a b ha hb=>by
  rcases Ym ha with ⟨i,t,rfl,rfl⟩ | ⟨x,t,rfl,rfl⟩
  ·rcases Ym hb with ⟨j,u,rfl,e⟩ | ⟨y,u,rfl,e⟩
   ·injection e with e1 _; rw [e1]
   ·exact nomatch e
  ·rcases Ym hb with ⟨j,u,rfl,e⟩ | ⟨y,u,rfl,e⟩
   ·exact nomatch e
   ·injection e with e1 _; rw [e1]
 byValue:=fun k v h=>by
  rcases Ym h with ⟨i,t,rfl,rfl⟩ | ⟨x,t,rfl,rfl⟩ <;> rfl
 pyHash:=fun hv h=>by
  rcases Ym hv with ⟨i,t,rfl,rfl⟩ | ⟨x,t,rfl,rfl⟩
  ·exact wpAny_pyHash_int h
  ·exact wpAny_pyHash_str h
 eqBool:=fun hu hv h=>by
  rcases Ym hu with ⟨i,t,rfl,rfl⟩ | ⟨x,t,rfl,rfl⟩
  ·rcases Ym hv with ⟨j,u,rfl,rfl⟩ | ⟨y,u,rfl,rfl⟩
   ·rw [key_ll] at h; exact wpAny_eqBool_int h
   ·rw [key_lr] at h; exact SeqAt.EqAt.int_str i t y u _ _ _ _ h
  ·rcases Ym hv with ⟨j,u,rfl,rfl⟩ | ⟨y,u,rfl,rfl⟩
   ·rw [key_rl] at h; exact SeqAt.EqAt.str_int x t j u _ _ _ _ h
   ·rw [key_rr] at h; exact wpAny_eqBool_str h
 «strs»:=fun k x t v h=>by
  rcases Ym h with ⟨i,u,rfl,e⟩ | ⟨y,u,rfl,e⟩
  ·exact nomatch e
  ·injection e with e1 _
   subst e1
   cases v <;> rfl
theorem mixKind_int (prog:Program) (w:World) (i:Int) (t:Tok):(Z8 prog w).is (.inl i) (.int i t)=true:=keyIs_int i t
theorem mixKind_str (prog:Program) (w:World) (x:Str) (t:Tok):(Z8 prog w).is (.inr x) (.str x t)=true:=keyIs_str x t
inductive V where
 | non | bl (b:Bool) | int (i:Int) | str (x:Str) | byt (b:Array UInt8) | flt (b:UInt64) | ref (a:Addr) | ty (n:String)
 deriving DecidableEq
def Z2:V->Value->Prop
 | .non,u=>u=Value.none
 | .bl b,u=>u=Value.bool b
 | .int i,u=>∃ t,u=Value.int i t
 | .str x,u=>∃ t,u=Value.str x t
 | .byt b,u=>∃ t,u=Value.bytes b t
 | .flt b,u=>∃ t,u=Value.float b t
 | .ref a,u=>u=Value.ref a
 | .ty n,u=>u=Value.type n
abbrev Z9:List V->List Value->Prop:=Paired Z2
theorem Z9.length {xs:List V} {us:List Value} (r:Z9 xs us):xs.length=us.length:=Paired.length r
theorem Z9.get:∀ {xs:List V} {us:List Value} {i:Nat} {x:V},Z9 xs us->xs[i]?=some x->∃ u,us[i]?=some u/\Z2 x u
 | _,_,_,_,.nil,e=>by simp at e
 | _,_,0,_,.cons r _,e=>by simp at e; subst e; exact ⟨_,rfl,r⟩
 | _,_,i+1,x,.cons _ t,e=>by
  obtain ⟨u,h1,h2⟩:=Z9.get (i:=i) (x:=x) t (by simpa using e)
  exact ⟨u,by simpa using h1,h2⟩
theorem Z9.set {x:V} {u:Value} (r:Z2 x u):∀ {xs:List V} {us:List Value} (i:Nat),Z9 xs us->Z9 (xs.set i x) (us.set i u)
 | _,_,_,.nil=>.nil
 | _,_,0,.cons _ t=>.cons r t
 | _,_,i+1,.cons q t=>.cons q (Z9.set r i t)
theorem Z9.append:∀ {xs ys:List V} {us ws:List Value},Z9 xs us->Z9 ys ws->Z9 (xs++ys) (us++ws)
 | _,_,_,_,.nil,s=>s
 | _,_,_,_,.cons r t,s=>.cons r (Z9.append t s)
theorem Z9.take:∀ {xs:List V} {us:List Value} (n:Nat),Z9 xs us->Z9 (xs.take n) (us.take n)
 | _,_,0,_=>.nil
 | _,_,_+1,.nil=>.nil
 | _,_,n+1,.cons r t=>.cons r (Z9.take n t)
theorem Z9.drop:∀ {xs:List V} {us:List Value} (n:Nat),Z9 xs us->Z9 (xs.drop n) (us.drop n)
 | _,_,0,r=>r
 | _,_,_+1,.nil=>.nil
 | _,_,n+1,.cons _ t=>Z9.drop n t
def RelO:Option V->Option Value->Prop
 | some v,some u=>Z2 v u
 | none,none=>True
 | _,_=>False
def KV {κ:Type}:List (κ × V)->List (κ × Value)->Prop:=Paired fun (p:κ × V) (q:κ × Value)=>p.1=q.1/\Z2 p.2 q.2
def kV:Yt->V
 | .inl i=>.int i
 | .inr x=>.str x
inductive HO where
 | lst (xs:List V)
 | tup (xs:List V)
 | dK (kvs:List (Yt × V)) | dT (kvs:List (List Yt × V))
 | set (S:Int->Bool) (n:Nat)
 | ins (C dx:Addr) (fs:List (Str × V))
 | own (x:Addr)
 | xd (fs:List (Str × V))
 | met (f x:Addr)
 | rng (lo hi:Int)
 | frz (o:Obj) (u:HO)
 | tbl (ps:Array Value)
 | ext (φ:Heap->Prop)
abbrev Hp:=Addr->Option HO
def Z3 (H:Hp) (a:Addr) (o:HO):Hp:=fun b=>if b=a then some o else H b
theorem Zz {H:Hp} {a:Addr} {o:HO}:Z3 H a o a=some o:=by unfold Z3; rw [if_pos rfl]
theorem Zk {H:Hp} {a b:Addr} {o:HO} (h:b≠a):Z3 H a o b=H b:=by unfold Z3; rw [if_neg h]
theorem upd_upd {H:Hp} {a:Addr} {o u:HO}:Z3 (Z3 H a o) a u=Z3 H a u:=by
 funext b; unfold Z3; split <;> rfl
theorem ne_of {H:Hp} {a b:Addr} {o u:HO} (h:H a=some o) (h':H b=some u) (d:o≠u):a≠b:=by
 intro e; subst e; rw [h] at h'; exact d (Option.some.inj h')
theorem Z4 {H:Hp} {a b:Addr} {o:HO} (h:H a=some o) (h':H b=none):a≠b:=by
 intro e; subst e; rw [h] at h'; cases h'
section
variable (P:Program) (w:World)
def TupN (h:Heap) (a:Addr) (its:Array Value):Prop:=∃ o,h.get? a=some o/\o.cls=.type "tuple" /\ (∃ n,o.data=.seq its n)/\o.dict=none
theorem TupN.tup {h:Heap} {a:Addr} {its:Array Value} (x:TupN h a its):IsTup h a its:=let ⟨o,e,c,d,_⟩:=x; ⟨o,e,c,d⟩
theorem TupN.lt {h:Heap} {a:Addr} {its:Array Value} (x:TupN h a its):a<h.objs.size:=x.tup.lt
theorem TupN.new (h:Heap) (its:Array Value):TupN (h.push { cls:=.type "tuple",data:=.seq its }) h.objs.size its:=⟨_,Heap.get?_push_size _ rfl,rfl,⟨_,rfl⟩,rfl⟩
def Yu (H:Hp) (h:Heap) (a:Addr):HO->Prop
 | .lst xs=>xs.length<=sizeLine/\∃ (its:List Value) (n:Nat),Z9 xs its/\h.get? a=some { cls:=.type "list",data:=.seq its.toArray n }
 | .tup xs=>xs.length<=sizeLine/\∃ its:List Value,Z9 xs its/\TupN h a its.toArray
 | .dK kvs=>kvs.length<=sizeLine/\(a == sysModules)=false/\∃ vs,KV kvs vs/\h.DictOf (Z8 P w) a vs
 | .dT kvs=>kvs.length<=sizeLine/\(a == sysModules)=false/\∃ xs:List (List Yt × Addr × Value),
   Paired (fun (p:List Yt × V) (q:List Yt × Addr × Value)=>p.1=q.1/\H q.2.1=some (.tup (p.1.map kV))/\Z2 p.2 q.2.2) kvs xs /\
   ∃ o es ep,h.get? a=some o/\o.ExactDict/\o.data=.dict es ep/\es.toList=xs.map (entryOfKey (tupleKind (Z8 P w)))/\(xs.map (·.1)).Nodup
 | .set S n=>h.SetOf (intKind P w) a S n
 | .ins C dx fs=>H dx=some (.own a)/\fs.length<=1000/\dx≠a/\h.get? a=some (W.instObj C dx) /\
   ∃ mA,h.Ns1 dx mA/\(∀ f,RelO (fs.lookup f) (mA f))/\PySem.Within mA (fs.map (·.1))
 | .own _=>∃ o,h.get? a=some o
 | .xd fs=>∃ mA,h.Ns1 a mA/\∀ f,RelO (fs.lookup f) (mA f)
 | .rng lo hi=>∃ t u v,h.get? a=some { cls:=.type "range",data:=.fields #[.int lo t,.int hi u,.int 1 v] }
 | .frz o u=>h.get? a=some o/\Yu H h a u
 | .tbl ps=>h.get? a=some { cls:=.none,data:=.fields ps }
 | .met f x=>h.get? a=some (W.methodObj (.ref f) (.ref x))
 | .ext φ=>φ h/\(∃ o,h.get? a=some o)/\∀ h1 h2:Heap,φ h1->(∀ o,h1.get? a=some o->h2.get? a=some o)->φ h2
def HOk (H:Hp) (h:Heap):Prop:=∀ a o,H a=some o->Yu P w H h a o
end
section
variable {P:Program} {w:World} {H H':Hp} {h h':Heap} {a:Addr} {o:HO}
theorem Yu.lt (x:Yu P w H h a o):a<h.objs.size:=by
 cases o with
 | lst xs=>obtain ⟨_,_,_,_,e⟩:=x; exact Heap.lt_size e
 | tup xs=>obtain ⟨_,_,_,p⟩:=x; exact p.lt
 | dK kvs=>obtain ⟨_,_,_,_,o,_,_,e,_⟩:=x; exact Heap.lt_size e
 | dT kvs=>obtain ⟨_,_,_,_,o,_,_,e,_⟩:=x; exact Heap.lt_size e
 | set S n=>obtain ⟨o,_,_,_,e,_⟩:=x; exact Heap.lt_size e
 | ins C dx fs=>obtain ⟨_,_,_,e,_⟩:=x; exact Heap.lt_size e
 | own y=>obtain ⟨_,e⟩:=x; exact Heap.lt_size e
 | xd fs=>obtain ⟨_,⟨_,_,_,e,_⟩,_⟩:=x; exact Heap.lt_size e
 | rng lo hi=>obtain ⟨_,_,_,e⟩:=x; exact Heap.lt_size e
 | frz ob u=>obtain ⟨e,_⟩:=x; exact Heap.lt_size e
 | tbl ps=>exact Heap.lt_size (show h.get? a=some _ from x)
 | met f y=>exact Heap.lt_size (show h.get? a=some _ from x)
 | ext φ=>obtain ⟨_,⟨_,e⟩,_⟩:=x; exact Heap.lt_size e
theorem Paired.mapP {α β:Type} {F G:α->β->Prop}:∀ {l₁:List α} {l₂:List β},Paired F l₁ l₂->(∀ a b,F a b->G a b)->Paired G l₁ l₂
 | _,_,.nil,_=>.nil
 | _,_,.cons r t,f=>.cons (f _ _ r) (Paired.mapP t f)
theorem Yu.stay (x:Yu P w H h a o) (k:∀ b u,(b=a\/H b=some (.own a))->h.get? b=some u->h'.get? b=some u)
  (ho:∀ b,H b=some (.own a)->H' b=some (.own a)) (ht:∀ b xs,H b=some (.tup xs)->H' b=some (.tup xs)):Yu P w H' h' a o:=by
 induction o with
 | lst xs=>obtain ⟨z,its,n,r,e⟩:=x; exact ⟨z,its,n,r,k _ _ (.inl rfl) e⟩
 | tup xs=>obtain ⟨z,its,r,ob,e,c⟩:=x; exact ⟨z,its,r,ob,k _ _ (.inl rfl) e,c⟩
 | dK kvs=>obtain ⟨z,y,vs,r,ob,es,ep,e,c⟩:=x; exact ⟨z,y,vs,r,ob,es,ep,k _ _ (.inl rfl) e,c⟩
 | dT kvs =>
  obtain ⟨z,y,xs,r,ob,es,ep,e,c⟩:=x
  exact ⟨z,y,xs,Paired.mapP r fun p q z=>⟨z.1,ht _ _ z.2.1,z.2.2⟩,ob,es,ep,k _ _ (.inl rfl) e,c⟩
 | set S n=>obtain ⟨ob,es,ep,t,e,c⟩:=x; exact ⟨ob,es,ep,t,k _ _ (.inl rfl) e,c⟩
 | ins C dx fs =>
  obtain ⟨d,z,ne,e,mA,⟨od,es,ep,e2,c⟩,r⟩:=x
  exact ⟨ho _ d,z,ne,k _ _ (.inl rfl) e,mA,⟨od,es,ep,k _ _ (.inr d) e2,c⟩,r⟩
 | own y=>obtain ⟨ob,e⟩:=x; exact ⟨ob,k _ _ (.inl rfl) e⟩
 | xd fs=>obtain ⟨mA,⟨od,es,ep,e,c⟩,r⟩:=x; exact ⟨mA,⟨od,es,ep,k _ _ (.inl rfl) e,c⟩,r⟩
 | rng lo hi=>obtain ⟨t,u,v,e⟩:=x; exact ⟨t,u,v,k _ _ (.inl rfl) e⟩
 | frz ob u ih=>obtain ⟨e,q⟩:=x; exact ⟨k _ _ (.inl rfl) e,ih q⟩
 | tbl ps =>
  have e:h.get? a=some { cls:=.none,data:=.fields ps }:=x
  show h'.get? a=some { cls:=.none,data:=.fields ps }
  exact k a _ (.inl rfl) e
 | met f y =>
  have e:h.get? a=some (W.methodObj (.ref f) (.ref y)):=x
  show h'.get? a=some (W.methodObj (.ref f) (.ref y))
  exact k a _ (.inl rfl) e
 | ext φ=>obtain ⟨p,⟨o,e⟩,st⟩:=x; exact ⟨st _ _ p fun o q=>k _ _ (.inl rfl) q,⟨o,k _ _ (.inl rfl) e⟩,st⟩
theorem HOk.lt (x:HOk P w H h) (e:H a=some o):a<h.objs.size:=(x a o e).lt
theorem HOk.fresh (x:HOk P w H h) (e:h.objs.size<=a):H a=none:=by
 cases q:H a with
 | none=>rfl
 | some u=>exact absurd (Nat.lt_of_lt_of_le (x.lt q) e) (Nat.lt_irrefl _)
theorem HOk.kept (x:HOk P w H h) (k:∀ b u,h.get? b=some u->h'.get? b=some u):HOk P w H h':=fun a o e =>
 (x a o e).stay (fun b u _ q=>k b u q) (fun _ q=>q) fun _ _ q=>q
theorem HOk.laid (x:HOk P w H h) (k:∀ b u,h.get? b=some u->h'.get? b=some u) (hp:h.objs.size<=a) (new:Yu P w (Z3 H a o) h' a o):HOk P w (Z3 H a o) h':=fun b u e=>by
 have hn:=x.fresh hp
 by_cases hb:b=a
 ·subst hb; rw [Zz] at e; cases e; exact new
 ·rw [Zk hb] at e
  exact (x b u e).stay (fun c v _ q=>k c v q) (fun c q=>by rw [Zk (Z4 q hn)]; exact q) fun c xs q=>by rw [Zk (Z4 q hn)]; exact q
end
def Rd (H:Hp) (a:Addr) (u:HO):Prop:=H a=some u\/∃ o,H a=some (.frz o u)
theorem Rd.of {H:Hp} {a:Addr} {u:HO} (h:H a=some u):Rd H a u:=.inl h
theorem Rd.ok {P:Program} {w:World} {H:Hp} {h:Heap} {a:Addr} {u:HO} (r:Rd H a u) (x:HOk P w H h):Yu P w H h a u:=by
 rcases r with r | ⟨o,r⟩
 ·exact x a u r
 ·obtain ⟨_,q⟩:=x a _ r
  exact q
def Mut:Option HO->Prop
 | some (.lst _)=>True
 | some (.dK _)=>True
 | some (.dT _)=>True
 | some (.set _ _)=>True
 | some (.ins _ _ _)=>True
 | some (.ext _)=>True
 | _=>False
section
variable {P:Program} {w:World} {H:Hp} {h h':Heap} {x e:Addr} {o':HO}
theorem HOk.write (ok:HOk P w H h) (mu:Mut (H x)) (he:e=x\/H e=some (.own x)) (k:∀ b u,b≠e->h.get? b=some u->h'.get? b=some u) (heo:∃ u,h'.get? e=some u)
  (new:Yu P w (Z3 H x o') h' x o'):HOk P w (Z3 H x o') h':=fun b u q=>by
 have nown:∀ c y,H c=some (.own y)->c≠x:=fun c y r z=>by subst z; rw [r] at mu; exact mu
 have ntup:∀ c xs,H c=some (.tup xs)->c≠x:=fun c xs r z=>by subst z; rw [r] at mu; exact mu
 by_cases hb:b=x
 ·subst hb; rw [Zz] at q; cases q; exact new
 ·rw [Zk hb] at q
  by_cases hbe:b=e
  ·have q':H b=some (.own x):=by
    rcases he with z | z
    ·exact absurd (hbe.trans z) hb
    ·rw [hbe]; exact z
   rw [q] at q'; cases q'
   obtain ⟨v,hv⟩:=heo
   exact ⟨v,by rw [hbe]; exact hv⟩
  ·refine (ok b u q).stay (fun c v hc r=>k c v ?_ r) (fun c r=>by rw [Zk (nown c b r)]; exact r) fun c xs r=>by rw [Zk (ntup c xs r)]; exact r
   rcases hc with rfl | hc
   ·exact hbe
   ·rintro rfl
    rcases he with z | z
    ·exact nown c b hc z
    ·rw [hc] at z; cases z; exact hb rfl
end
structure Un (fs ex:List Addr) (H H':Hp) (h h':Heap):Prop where
 keep:∀ b o,h.get? b=some o->H b=none->b ∉ fs->b ∉ ex->h'.get? b=some o
 slot:∀ b o,h.get? b=some o->H b=none->b∈fs->b ∉ ex->∃ sl,h'.get? b=some { o with slots:=sl }
 free:∀ b o,h.get? b=some o->H b=none->b ∉ ex->H' b=none
 there:∀ b o,h.get? b=some o->b ∉ ex->∃ o',h'.get? b=some o'
 tups:∀ b xs,H b=some (.tup xs)->H' b=some (.tup xs)
 frzs:∀ b o u,H b=some (.frz o u)->H' b=some (.frz o u)
 tbls:∀ b ps,H b=some (.tbl ps)->∃ more,H' b=some (.tbl (ps++more))
section
variable {fs fs' ex ex':List Addr} {H H1 H2:Hp} {h h1 h2 h':Heap} {a x e:Addr} {o:HO}
theorem Un.any (u:Un fs ex H H1 h h1) {b:Addr} {ob:Obj} (q:h.get? b=some ob) (n:H b=none) (hx:b ∉ ex):∃ sl,h1.get? b=some { ob with slots:=sl }:=by
 by_cases hb:b∈fs
 ·exact u.slot b ob q n hb hx
 ·exact ⟨ob.slots,u.keep b ob q n hb hx⟩
theorem Un.trans (a:Un fs ex H H1 h h1) (b:Un fs ex H1 H2 h1 h2):Un fs ex H H2 h h2 where
 keep:=fun c ob q n hc hx=>b.keep c ob (a.keep c ob q n hc hx) (a.free c ob q n hx) hc hx
 slot:=fun c ob q n hc hx=>by
  obtain ⟨sl,e1⟩:=a.slot c ob q n hc hx
  obtain ⟨sl',e2⟩:=b.slot c _ e1 (a.free c ob q n hx) hc hx
  exact ⟨sl',e2⟩
 free:=fun c ob q n hx=>by
  obtain ⟨o',e1⟩:=a.there c ob q hx
  exact b.free c o' e1 (a.free c ob q n hx) hx
 there:=fun c ob q hx=>by
  obtain ⟨o',e1⟩:=a.there c ob q hx
  exact b.there c o' e1 hx
 tups:=fun c xs q=>b.tups c xs (a.tups c xs q)
 frzs:=fun c ob xs q=>b.frzs c ob xs (a.frzs c ob xs q)
 tbls:=fun c ps q=>by
  obtain ⟨m1,e1⟩:=a.tbls c ps q
  obtain ⟨m2,e2⟩:=b.tbls c _ e1
  exact ⟨m1++m2,by rw [e2,Array.append_assoc]⟩
theorem Un.kept (k:∀ b u,h.get? b=some u->h'.get? b=some u):Un fs ex H H h h' :=
 ⟨fun b ob q _ _ _=>k b ob q,fun b ob q _ _ _=>⟨ob.slots,k b ob q⟩,fun _ _ _ n _=>n,fun b ob q _=>⟨ob,k b ob q⟩,fun _ _ q=>q,fun _ _ _ q=>q,fun _ ps q=>⟨#[],by rw [q]; simp⟩⟩
theorem Un.refl:Un fs ex H H h h:=Un.kept fun _ _ q=>q
theorem Un.laid (k:∀ b u,h.get? b=some u->h'.get? b=some u) (hp:h.objs.size<=a) (hn:H a=none):Un fs ex H (Z3 H a o) h h' where
 keep:=fun b u q _ _ _=>k b u q
 slot:=fun b u q _ _ _=>⟨u.slots,k b u q⟩
 free:=fun b u q n _=>by rw [Zk (Nat.ne_of_lt (Nat.lt_of_lt_of_le (Heap.lt_size q) hp))]; exact n
 there:=fun b u q _=>⟨u,k b u q⟩
 tups:=fun b xs q=>by rw [Zk (Z4 q hn)]; exact q
 frzs:=fun b u xs q=>by rw [Zk (Z4 q hn)]; exact q
 tbls:=fun b ps q=>⟨#[],by rw [Zk (Z4 q hn),q]; simp⟩
theorem Un.write (mu:Mut (H x)) (he:e=x\/H e=some (.own x)) (k:∀ b u,b≠e->h.get? b=some u->h'.get? b=some u) (heo:∃ u,h'.get? e=some u):Un fs ex H (Z3 H x o) h h':=by
 have hx:∀ b,H b=none->b≠x:=fun b n z=>by subst z; rw [n] at mu; exact mu
 have hb:∀ b,H b=none->b≠e:=fun b n z=>by
  subst z
  rcases he with r | r
  ·exact hx b n r
  ·rw [n] at r; cases r
 have hm:∀ b u,H b=some u->¬ Mut (some u)->b≠x:=fun b u q nm z=>by subst z; rw [q] at mu; exact nm mu
 refine ⟨fun b u q n _ _=>k b u (hb b n) q,fun b u q n _ _=>⟨u.slots,k b u (hb b n) q⟩,fun b u q n _=>by rw [Zk (hx b n)]; exact n,fun b u q _=>?_,
  fun b xs q=>by rw [Zk (hm b _ q fun z=>z)]; exact q,fun b u xs q=>by rw [Zk (hm b _ q fun z=>z)]; exact q,fun b ps q=>⟨#[],by rw [Zk (hm b _ q fun z=>z),q]; simp⟩⟩
 by_cases hbe:b=e
 ·subst hbe; exact heo
 ·exact ⟨u,k b u hbe q⟩
theorem Un.mono (u:Un fs ex H H1 h h1) (hs:∀ b∈fs,b∈fs') (hx:∀ b∈ex,b∈ex'):Un fs' ex' H H1 h h1 :=
 ⟨fun b ob q n hb he=>u.keep b ob q n (fun z=>hb (hs b z)) fun z=>he (hx b z),fun _ _ q n _ he=>u.any q n fun z=>he (hx _ z),fun b ob q n he=>u.free b ob q n fun z=>he (hx b z),fun b ob q he=>u.there b ob q fun z=>he (hx b z),u.tups,u.frzs,u.tbls⟩
end
def trk (h:Heap) (H:Hp):List Addr:=(List.range h.objs.size).filter fun a=>(H a).isSome
def hidT (h:Heap) (H:Hp):Heap:=W.hideAll h (trk h H)
theorem hidT_size (h:Heap) (H:Hp):(hidT h H).objs.size=h.objs.size:=W.hideAll_size _ _
theorem hidT_get {h:Heap} {H:Hp} {b:Addr} {o:Obj} (e:h.get? b=some o) (n:H b=none):(hidT h H).get? b=some o :=
 W.hideAll_get _ e fun hm=>by
  have q:(H b).isSome=true:=(List.mem_filter.mp hm).2
  rw [n] at q; simp at q
theorem of_hidT {h:Heap} {H:Hp} {b:Addr} {o:Obj} (e:(hidT h H).get? b=some o):h.get? b=some o/\H b=none:=by
 have e':h.get? b=some o:=W.of_hideAll (trk h H) e
 refine ⟨e', ?_⟩
 cases q:H b with
 | none=>rfl
 | some x =>
  have hm:b∈trk h H:=List.mem_filter.mpr ⟨List.mem_range.mpr (Heap.lt_size e'),by simp [q]⟩
  have z:(hidT h H).get? b=none:=W.hideAll_none (trk h H) hm
  rw [z] at e; cases e
def allNews (g h:Heap) (L:Addr):List (Addr × Obj):=(List.range h.objs.size).filterMap fun a=>if a=L\/(g.get? a).isSome=true then none else (h.get? a).map fun o=>(a,o)
def rest (g h:Heap) (L d:Addr):List (Addr × Obj):=(allNews g h L).filter fun p=>decide (p.1≠d)
structure Mod (K:W.Frag) (mg:Str->Option Value) (base:Heap):Prop where
 kin:K.In base
 glob:base.Ns mainGlobals mg
 blt:∃ mb,base.Ns builtinsNs mb/\∀ x:Str,x ≠ "__name__" -> mb x=bootBuiltins x
 nolimit:base.NoLimit
structure Cx where
 prog:Program
 w:World
 K:W.Frag
 mg:Str->Option Value
 base:Heap
 A:Around
 N:List Str
 s₀:Shared
 H₀:Hp
 env:Env
 outer:List Env
 stack:List Env
 ex:List Addr
 fn:Str->Bool
 calm:Bool
 pn:List (Addr × Obj)
 xe:Value->Shared->Prop
def frs (l:List Env):List Addr:=l.filterMap (·.frame)
abbrev Cx.fs (X:Cx):List Addr:=frs X.outer
def Vis (sc:Scope) (x:Str):Prop:=sc.names.lookup x=some .local\/sc.names.lookup x=some .cell\/sc.names.lookup x=some .free
def Loc (sc:Scope) (x:Str):Prop:=sc.names.lookup x=some .local\/sc.names.lookup x=some .cell
def Look (env:Env) (h:Heap) (m:Str->Option Value) (x:Str) (u:Value):Prop :=
 (env.kindOf x=some .local/\m x=some u)\/((env.kindOf x=some .cell\/env.kindOf x=some .free)/\∃ c,env.cells.lookup x=some c/\h.IsCell c (some u))
structure Cx.Ok (X:Cx):Prop where
 mod:Mod X.K X.mg X.base
 kind:X.env.scope.kind=.function
 glob:X.env.globals=mainGlobals
 blt:X.env.builtins=builtinsNs
 above:X.s₀.heap.objs.size<=X.env.locals
 inj:∀ x y c,X.env.cells.lookup x=some c->X.env.cells.lookup y=some c->x=y
 has:∀ x,(X.env.kindOf x=some .cell\/X.env.kindOf x=some .free)->∃ c,X.env.cells.lookup x=some c
 cab:∀ x c,X.fn x=true->X.env.cells.lookup x=some c->X.s₀.heap.objs.size<=c
 hd:X.calm=true->X.A.handled=none
 frames:X.A.frames=some X.stack
 stk:X.stack=X.outer\/(X.stack=X.env::X.outer/\X.env.frame=some X.env.locals)
 exf:∀ b∈X.ex,b≠X.env.locals/\∀ x c,X.env.cells.lookup x=some c->c≠b
 bs:∀ b o,X.base.get? b=some o->X.s₀.heap.get? b=some o/\X.H₀ b=none
 bsz:X.base.objs.size<=X.s₀.heap.objs.size
 noex:∀ b o,X.base.get? b=some o->b ∉ X.ex
 exfs:∀ b∈X.ex,b ∉ X.fs
 funs:X.s₀.heap.FunFrames X.base X.outer
 frf:∀ b∈X.fs,X.H₀ b=none
structure Zs (X:Cx) (pins:List (Addr × Obj)) (σ:List (Option V)) (H:Hp) (s:Shared):Prop where
 ok:X.Ok
 os:s.os=X.s₀.os
 bare:AllBare s.gens
 base:Un X.fs X.ex X.H₀ H X.s₀.heap s.heap
 loc:∃ m,s.heap.Ns X.env.locals m/\∀ (i:Nat) (x:Str) (v:V),X.N[i]?=some x->σ[i]?=some (some v)->Vis X.env.scope x->∃ u,Z2 v u/\Look X.env s.heap m x u
 cell:∀ x c,X.env.cells.lookup x=some c->∃ v,s.heap.IsCell c v
 free:H X.env.locals=none
 freeC:∀ x c,X.env.cells.lookup x=some c->H c=none
 pin:∀ p∈X.pn++pins,s.heap.get? p.1=some p.2/\H p.1=none/\p.1≠X.env.locals/\p.1 ∉ X.fs/\∀ v,p.2.data≠.cell v
 hok:HOk X.prog X.w H s.heap
 len:σ.length=X.N.length
section
variable {X:Cx} {pins:List (Addr × Obj)} {σ:List (Option V)} {H H':Hp} {s:Shared} {h':Heap}
theorem Cx.Ok.nofr (ok:X.Ok) {b:Addr} {o:Obj} (e:X.base.get? b=some o):b ∉ X.fs:=fun hb=>by
 have:=(ok.funs.mem hb).1
 rw [e] at this; cases this
theorem Zs.bs (I:Zs X pins σ H s):∀ b o,X.base.get? b=some o->s.heap.get? b=some o/\H b=none:=fun b o e =>
 ⟨I.base.keep b o (I.ok.bs b o e).1 (I.ok.bs b o e).2 (I.ok.nofr e) (I.ok.noex b o e),I.base.free b o (I.ok.bs b o e).1 (I.ok.bs b o e).2 (I.ok.noex b o e)⟩
theorem Zs.bk (I:Zs X pins σ H s):∀ b o,X.base.get? b=some o->s.heap.get? b=some o:=fun b o e=>(I.bs b o e).1
theorem Zs.mod (I:Zs X pins σ H s):Mod X.K X.mg X.base:=I.ok.mod
theorem Zs.kIn (I:Zs X pins σ H s):X.K.In s.heap:=I.ok.mod.kin.keeps I.bk
theorem Zs.fr (I:Zs X pins σ H s):∃ m,Fr X.base X.env.locals s.heap m :=
 let ⟨m,hn,_⟩:=I.loc
 ⟨m,hn,I.bk,Nat.le_trans I.ok.bsz I.ok.above⟩
theorem Zs.lt (I:Zs X pins σ H s):X.env.locals<s.heap.objs.size:=let ⟨_,hn,_⟩:=I.loc; hn.lt
theorem Zs.sz (I:Zs X pins σ H s):X.s₀.heap.objs.size<=s.heap.objs.size:=Nat.le_trans I.ok.above (Nat.le_of_lt I.lt)
theorem Zs.nofs (I:Zs X pins σ H s) {a:Addr} (h:s.heap.objs.size<=a):a ∉ X.fs:=fun hb=>by
 obtain ⟨_,o,ho,_⟩:=I.ok.funs.mem hb
 exact absurd (Nat.lt_of_lt_of_le (Heap.lt_size ho) (Nat.le_trans I.sz h)) (Nat.lt_irrefl _)
theorem Zs.cne (I:Zs X pins σ H s):∀ x c,X.env.cells.lookup x=some c->c≠X.env.locals:=fun x c e z=>by
 obtain ⟨v,o,ho,hd⟩:=I.cell x c e
 obtain ⟨m,⟨o',es,ep,ho',hd',_⟩,_⟩:=I.loc
 rw [z,ho'] at ho; cases ho; rw [hd'] at hd; cases hd
theorem Zs.funs (I:Zs X pins σ H s):s.heap.FunFrames X.base X.outer:=by
 have all:∀ (l:List Env),(∀ b∈frs l,b∈X.fs)->X.s₀.heap.FunFrames X.base l->s.heap.FunFrames X.base l:=by
  intro l
  induction l with
  | nil=>intro _ _; trivial
  | cons env r ih =>
   intro hs hl
   obtain ⟨hk,⟨L,o,hf,hn,ho,hd⟩,hr⟩:=hl
   have hL:L∈X.fs:=hs L (by unfold frs; rw [List.filterMap_cons,hf]; exact List.mem_cons_self)
   obtain ⟨sl,e⟩:=I.base.slot L o ho (I.ok.frf L hL) hL fun z=>I.ok.exfs L z hL
   exact ⟨hk,⟨L,_,hf,hn,e,hd⟩,ih (fun b hb=>hs b (by unfold frs; rw [List.filterMap_cons,hf]; exact List.mem_cons_of_mem _ hb)) hr⟩
 exact all X.outer (fun _ hb=>hb) I.ok.funs
theorem Zs.stack (I:Zs X pins σ H s):s.heap.FunFrames X.base X.stack:=by
 rcases I.ok.stk with e | ⟨e,hf⟩
 ·rw [e]; exact I.funs
 ·rw [e]
  obtain ⟨m,hn,_⟩:=I.loc
  refine .cons (by rw [I.ok.kind]; decide) hf hn ?_ I.funs
  exact Heap.get?_none_of_le (Nat.le_trans I.ok.bsz I.ok.above)
theorem Zs.stkSub (I:Zs X pins σ H s):∀ b∈frs X.stack,b∈X.env.locals::X.fs:=fun b hb=>by
 rcases I.ok.stk with e | ⟨e,hf⟩
 ·rw [e] at hb; exact List.mem_cons_of_mem _ hb
 ·rw [e] at hb
  unfold frs at hb
  rw [List.filterMap_cons,hf] at hb
  exact hb
theorem Zs.stkFree (I:Zs X pins σ H s):∀ b∈frs X.stack,H b=none:=fun b hb=>by
 rcases List.mem_cons.mp (I.stkSub b hb) with e | hb
 ·rw [e]; exact I.free
 ·obtain ⟨_,o,ho,_⟩:=I.ok.funs.mem hb
  exact I.base.free b o ho (I.ok.frf b hb) fun z=>I.ok.exfs b z hb
theorem Zs.step {g':Array GenState} {t':Nat} {d':Drawn} {ch:List Addr} (I:Zs X pins σ H s)
  (hch:∀ b∈ch,(b∈X.ex\/X.s₀.heap.objs.size<=b)/\b≠X.env.locals/\(∀ x c,X.env.cells.lookup x=some c->c≠b)/\∀ p∈X.pn++pins,p.1≠b)
  (keep:∀ b o,b≠X.env.locals->b ∉ X.fs->b ∉ ch->s.heap.get? b=some o->H b=none->h'.get? b=some o)
  (slot:∀ b o,b≠X.env.locals->b∈X.fs->b ∉ ch->s.heap.get? b=some o->H b=none->∃ sl,h'.get? b=some { o with slots:=sl }) (free:∀ b o,b ∉ ch->s.heap.get? b=some o->H b=none->H' b=none)
  (there:∀ b o,b ∉ ch->s.heap.get? b=some o->∃ o',h'.get? b=some o')
  (tups:∀ b xs,H b=some (.tup xs)->H' b=some (.tup xs)) (frzs:∀ b o u,H b=some (.frz o u)->H' b=some (.frz o u)) (tbls:∀ b ps,H b=some (.tbl ps)->∃ more,H' b=some (.tbl (ps++more)))
  (ns:∀ m,s.heap.Ns X.env.locals m->h'.Ns X.env.locals m) (hok:HOk X.prog X.w H' h') (hg:AllBare g') :
  Zs X pins σ H' { s with heap:=h',gens:=g',drawn:=d',toks:=t' }:=by
 have neL:∀ b o,X.s₀.heap.get? b=some o->b≠X.env.locals:=fun b o e=>Nat.ne_of_lt (Nat.lt_of_lt_of_le (Heap.lt_size e) I.ok.above)
 have neC:∀ b o,X.s₀.heap.get? b=some o->b ∉ X.ex->b ∉ ch:=fun b o e hx hb=>by
  rcases (hch b hb).1 with z | z
  ·exact hx z
  ·exact absurd (Nat.lt_of_lt_of_le (Heap.lt_size e) z) (Nat.lt_irrefl _)
 have cellK:∀ x c,X.env.cells.lookup x=some c->∀ v,s.heap.IsCell c v->h'.IsCell c v:=fun x c e v ⟨o,ho,hd⟩=>by
  have nch:c ∉ ch:=fun z=>(hch c z).2.2.1 x c e rfl
  by_cases hc:c∈X.fs
  ·obtain ⟨sl,q⟩:=slot c o (I.cne x c e) hc nch ho (I.freeC x c e)
   exact ⟨_,q,hd⟩
  ·exact ⟨o,keep c o (I.cne x c e) hc nch ho (I.freeC x c e),hd⟩
 refine ⟨I.ok,I.os,hg,⟨fun b o e n hb hx=>?_,fun b o e n hb hx=>?_,fun b o e n hx=>?_,fun b o e hx=>?_,fun b xs e=>tups b xs (I.base.tups b xs e),fun b o xs e=>frzs b o xs (I.base.frzs b o xs e),fun b ps e=>?_⟩, ?_,fun x c e=>?_, ?_,fun x c e=>?_,fun p hp=>?_,hok,I.len⟩
 ·exact keep b o (neL b o e) hb (neC b o e hx) (I.base.keep b o e n hb hx) (I.base.free b o e n hx)
 ·obtain ⟨sl,e1⟩:=I.base.slot b o e n hb hx
  obtain ⟨sl',e2⟩:=slot b _ (neL b o e) hb (neC b o e hx) e1 (I.base.free b o e n hx)
  exact ⟨sl',e2⟩
 ·obtain ⟨o',e1⟩:=I.base.there b o e hx
  exact free b o' (neC b o e hx) e1 (I.base.free b o e n hx)
 ·obtain ⟨o',e1⟩:=I.base.there b o e hx
  exact there b o' (neC b o e hx) e1
 ·obtain ⟨m1,e1⟩:=I.base.tbls b ps e
  obtain ⟨m2,e2⟩:=tbls b _ e1
  exact ⟨m1++m2,by rw [e2,Array.append_assoc]⟩
 ·obtain ⟨m,hn,hl⟩:=I.loc
  refine ⟨m,ns m hn,fun i x v e1 e2 e3=>?_⟩
  obtain ⟨u,r,l⟩:=hl i x v e1 e2 e3
  refine ⟨u,r, ?_⟩
  rcases l with l | ⟨k,c,e,z⟩
  ·exact .inl l
  ·exact .inr ⟨k,c,e,cellK x c e _ z⟩
 ·obtain ⟨v,z⟩:=I.cell x c e
  exact ⟨v,cellK x c e v z⟩
 ·obtain ⟨m,⟨o,_,_,ho,_⟩,_⟩:=I.loc
  exact free _ o (fun z=>(hch _ z).2.1 rfl) ho I.free
 ·obtain ⟨v,o,ho,hd⟩:=I.cell x c e
  exact free c o (fun z=>(hch c z).2.2.1 x c e rfl) ho (I.freeC x c e)
 ·obtain ⟨e,n,ne,nf,d⟩:=I.pin p hp
  have nch:p.1 ∉ ch:=fun z=>(hch p.1 z).2.2.2 p hp rfl
  exact ⟨keep p.1 p.2 ne nf nch e n,free p.1 p.2 nch e n,ne,nf,d⟩
theorem Zs.un {t':Nat} (I:Zs X pins σ H s) (u:Un X.fs [] H H' s.heap h') (hok:HOk X.prog X.w H' h'):Zs X pins σ H' { s with heap:=h',toks:=t' }:=by
 obtain ⟨m,⟨o,es,ep,ho,r⟩,_⟩:=id I.loc
 obtain ⟨sl,hL⟩:=u.any ho I.free (by simp)
 exact I.step (g':=s.gens) (d':=s.drawn) (ch:=[]) (fun _ z=>nomatch z) (fun b o _ hb _ e n=>u.keep b o e n hb (by simp)) (fun b o _ hb _ e n=>u.slot b o e n hb (by simp)) (fun b o _ e n=>u.free b o e n (by simp)) (fun b o _ e=>u.there b o e (by simp)) u.tups u.frzs u.tbls (fun m' hm=>by
  obtain ⟨o',es',ep',ho',r'⟩:=hm
  rw [ho] at ho'; cases ho'
  exact ⟨_,es',ep',hL,r'⟩) hok I.bare
theorem Zs.call {g':Array GenState} {t':Nat} {d':Drawn} {ch:List Addr} (I:Zs X pins σ H s) (u:Un (frs X.stack) ch H H' s.heap h') (hok:HOk X.prog X.w H' h') (hg:AllBare g')
  (hch:∀ b∈ch,(b∈X.ex\/X.s₀.heap.objs.size<=b)/\b≠X.env.locals/\(∀ x c,X.env.cells.lookup x=some c->c≠b)/\∀ p∈X.pn++pins,p.1≠b) :
  Zs X pins σ H' { s with heap:=h',gens:=g',drawn:=d',toks:=t' }:=by
 obtain ⟨m,⟨o,es,ep,ho,r⟩,_⟩:=id I.loc
 obtain ⟨sl,hL⟩:=u.any ho I.free fun z=>(hch _ z).2.1 rfl
 exact I.step (ch:=ch) hch (fun b o hL hb hc e n=>u.keep b o e n (fun z=>(List.mem_cons.mp (I.stkSub b z)).elim hL hb) hc) (fun b o _ _ hc e n=>u.any e n hc) (fun b o hc e n=>u.free b o e n hc) (fun b o hc e=>u.there b o e hc) u.tups u.frzs u.tbls (fun m' hm=>by
  obtain ⟨o',es',ep',ho',r'⟩:=hm
  rw [ho] at ho'; cases ho'
  exact ⟨_,es',ep',hL,r'⟩) hok hg
theorem Zs.turned {t':Nat} {it:Addr} (I:Zs X pins σ H s) (k:∀ b o,b≠it->s.heap.get? b=some o->h'.get? b=some o) (hn:H it=none) (hL:it≠X.env.locals)
  (h1:it∈X.ex\/X.s₀.heap.objs.size<=it) (h2:∀ x c,X.env.cells.lookup x=some c->c≠it) (h3:∀ p∈X.pn++pins,p.1≠it):Zs X pins σ H { s with heap:=h',toks:=t' }:=by
 have nit:∀ b u,H b=some u->b≠it:=fun b u e z=>by rw [z,hn] at e; cases e
 refine I.step (g':=s.gens) (d':=s.drawn) (ch:=[it]) (fun b hb=>?_) (fun b o _ _ hc e _=>k b o (fun z=>hc (by simp [z])) e) (fun b o _ _ hc e _=>⟨o.slots,k b o (fun z=>hc (by simp [z])) e⟩) (fun _ _ _ _ n=>n)
  (fun b o hc e=>⟨o,k b o (fun z=>hc (by simp [z])) e⟩) (fun _ _ e=>e) (fun _ _ _ e=>e) (fun b ps e=>⟨#[],by rw [e]; simp⟩) (fun m hm=>?_) (fun b u e=>?_) I.bare
 ·have e:b=it:=by simpa using hb
  subst e
  exact ⟨h1,hL,h2,h3⟩
 ·obtain ⟨o,es,ep,ho,r⟩:=hm
  exact ⟨o,es,ep,k _ o (Ne.symm hL) ho,r⟩
 ·refine (I.hok b u e).stay (fun c v hc q=>k c v ?_ q) (fun _ q=>q) fun _ _ q=>q
  rcases hc with z | z
  ·rw [z]; exact nit b u e
  ·exact nit c _ z
theorem Zs.tok (I:Zs X pins σ H s) (t:Nat):Zs X pins σ H { s with toks:=t }:=I.un (h':=s.heap) (t':=t) Un.refl I.hok
theorem Zs.kept {t':Nat} (I:Zs X pins σ H s) (k:∀ b u,s.heap.get? b=some u->h'.get? b=some u):Zs X pins σ H { s with heap:=h',toks:=t' }:=I.un (Un.kept k) (I.hok.kept k)
theorem Zs.laid {a:Addr} {o:HO} {t':Nat} (I:Zs X pins σ H s) (k:∀ b u,s.heap.get? b=some u->h'.get? b=some u) (hp:s.heap.objs.size<=a) (new:Yu X.prog X.w (Z3 H a o) h' a o) :
  Zs X pins σ (Z3 H a o) { s with heap:=h',toks:=t' }:=I.un (Un.laid k hp (I.hok.fresh hp)) (I.hok.laid k hp new)
theorem Zs.write {x e:Addr} {o:HO} {t':Nat} (I:Zs X pins σ H s) (mu:Mut (H x)) (he:e=x\/H e=some (.own x)) (k:∀ b u,b≠e->s.heap.get? b=some u->h'.get? b=some u) (heo:∃ u,h'.get? e=some u)
  (new:Yu X.prog X.w (Z3 H x o) h' x o):Zs X pins σ (Z3 H x o) { s with heap:=h',toks:=t' }:=I.un (Un.write mu he k heo) (I.hok.write mu he k heo new)
theorem Zs.pins_of {pins':List (Addr × Obj)} (I:Zs X pins σ H s) (h:∀ p∈pins',s.heap.get? p.1=some p.2/\H p.1=none/\p.1≠X.env.locals/\p.1 ∉ X.fs/\∀ v,p.2.data≠.cell v):Zs X pins' σ H s :=
 ⟨I.ok,I.os,I.bare,I.base,I.loc,I.cell,I.free,I.freeC,fun p hp=>(List.mem_append.mp hp).elim (fun z=>I.pin p (List.mem_append_left _ z)) (h p),I.hok,I.len⟩
theorem nodup_ix {N:List Str} (hN:N.Nodup) {i j:Nat} {x:Str} (a:N[i]?=some x) (b:N[j]?=some x):i=j:=by
 obtain ⟨h1,e1⟩:=List.getElem?_eq_some_iff.mp a
 obtain ⟨h2,e2⟩:=List.getElem?_eq_some_iff.mp b
 exact (List.getElem_inj hN).mp (e1.trans e2.symm)
theorem store_ok2 {M:Model} {A:Around} {E:Value->Shared->Prop} {i:Nat} {x:Str} {v:V} {u:Value} {Q:Unit->Shared->Prop} (I:Zs X pins σ H s) (hN:X.N.Nodup) (hi:X.N[i]?=some x) (hx:Loc X.env.scope x) (r:Z2 v u)
  (h:∀ s',Zs X pins (σ.set i (some v)) H s'->(∃ a,Heap.SameBut a s.heap s'.heap/\(a=X.env.locals\/X.env.cells.lookup x=some a))->Q () s') (hf:X.fn x=true\/X.env.scope.names.lookup x=some .local:=by first | exact .inl rfl | exact .inr rfl | assumption):wpAny M A (storeName X.env x u) Q E s:=by
 obtain ⟨m,hn,hl⟩:=id I.loc
 have hcls:(X.env.scope.kind == .class || (X.env.scope.kind == .module && X.env.locals != X.env.globals))=false:=by rw [I.ok.kind]; rfl
 have hiσ:i<σ.length:=by rw [I.len]; exact (List.getElem?_eq_some_iff.mp hi).1
 have cne:=I.cne
 have tracked:∀ {a:Addr} {h':Heap},(∃ o,s.heap.get? a=some o/\H a=none)->Heap.SameBut a s.heap h'->HOk X.prog X.w H h':=fun {a h'} ha hs b ob e=>by
  obtain ⟨_,_,hfree⟩:=ha
  refine (I.hok b ob e).stay (fun c w' hc q=>(hs.2 c ?_).trans q) (fun _ q=>q) fun _ _ q=>q
  rintro rfl
  rcases hc with rfl | hc
  ·rw [hfree] at e; cases e
  ·rw [hfree] at hc; cases hc
 rcases hx with hk | hk
 ·refine wpAny_storeName_local hk hn (fun h' hn' hs=>?_) hcls
  obtain ⟨oL,_,_,hoL,_⟩:=id hn
  refine h _ ⟨I.ok,I.os,I.bare,⟨fun b o e n hb hx=>?_,fun b o e n hb hx=>?_,I.base.free,fun b o e hx=>?_,I.base.tups,I.base.frzs,I.base.tbls⟩,⟨_,hn',fun j y v' e1 e2 e3=>?_⟩,fun y c e=>?_,I.free,I.freeC,fun p hp=>?_,tracked ⟨oL,hoL,I.free⟩ hs,by simpa using I.len⟩ ⟨_,hs,.inl rfl⟩
  ·exact (hs.2 b (Nat.ne_of_lt (Nat.lt_of_lt_of_le (Heap.lt_size e) I.ok.above))).trans (I.base.keep b o e n hb hx)
  ·obtain ⟨sl,e1⟩:=I.base.slot b o e n hb hx
   exact ⟨sl,(hs.2 b (Nat.ne_of_lt (Nat.lt_of_lt_of_le (Heap.lt_size e) I.ok.above))).trans e1⟩
  ·obtain ⟨o',e1⟩:=I.base.there b o e hx
   exact ⟨o',(hs.2 b (Nat.ne_of_lt (Nat.lt_of_lt_of_le (Heap.lt_size e) I.ok.above))).trans e1⟩
  ·by_cases hj:j=i
   ·subst hj
    rw [hi] at e1; cases e1
    rw [List.getElem?_set_self hiσ] at e2
    cases e2
    exact ⟨u,r,.inl ⟨hk,by simp⟩⟩
   ·rw [List.getElem?_set_ne (Ne.symm hj)] at e2
    obtain ⟨u',r',q⟩:=hl j y v' e1 e2 e3
    refine ⟨u',r', ?_⟩
    rcases q with ⟨k,e⟩ | ⟨k,c,e,z⟩
    ·refine .inl ⟨k, ?_⟩
     have:y≠x:=fun e=>hj (nodup_ix hN e1 (e ▸ hi))
     simp [this,e]
    ·exact .inr ⟨k,c,e,z.sameBut hs (cne y c e)⟩
  ·obtain ⟨w',z⟩:=I.cell y c e
   exact ⟨w',z.sameBut hs (cne y c e)⟩
  ·obtain ⟨e,n,ne,nf,d⟩:=I.pin p hp
   exact ⟨(hs.2 p.1 ne).trans e,n,ne,nf,d⟩
 ·have hfn:X.fn x=true:=by
   rcases hf with z | z
   ·exact z
   ·rw [z] at hk; cases hk
  obtain ⟨c,hc⟩:=I.ok.has x (.inl hk)
  obtain ⟨w',z⟩:=I.cell x c hc
  refine wpAny_storeName_cell I.ok.kind hk hc z (fun h' hc' hs=>?_)
  obtain ⟨oc,hoc,hocd⟩:=id z
  refine h { s with heap:=h' } ⟨I.ok,I.os,I.bare,⟨fun b o e n hb hx=>?_,fun b o e n hb hx=>?_,I.base.free,fun b o e hx=>?_,I.base.tups,I.base.frzs,I.base.tbls⟩,⟨m,hn.sameBut hs (Ne.symm (cne x c hc)),fun j y v' e1 e2 e3=>?_⟩,fun y c' e=>?_,I.free,I.freeC,fun p hp=>?_,tracked ⟨oc,hoc,I.freeC x c hc⟩ hs,by simpa using I.len⟩ ⟨c,hs,.inr hc⟩
  ·exact (hs.2 b (Nat.ne_of_lt (Nat.lt_of_lt_of_le (Heap.lt_size e) (I.ok.cab x c hfn hc)))).trans (I.base.keep b o e n hb hx)
  ·obtain ⟨sl,e1⟩:=I.base.slot b o e n hb hx
   exact ⟨sl,(hs.2 b (Nat.ne_of_lt (Nat.lt_of_lt_of_le (Heap.lt_size e) (I.ok.cab x c hfn hc)))).trans e1⟩
  ·obtain ⟨o',e1⟩:=I.base.there b o e hx
   exact ⟨o',(hs.2 b (Nat.ne_of_lt (Nat.lt_of_lt_of_le (Heap.lt_size e) (I.ok.cab x c hfn hc)))).trans e1⟩
  ·by_cases hj:j=i
   ·subst hj
    rw [hi] at e1; cases e1
    rw [List.getElem?_set_self hiσ] at e2
    cases e2
    exact ⟨u,r,.inr ⟨.inl hk,c,hc,hc'⟩⟩
   ·rw [List.getElem?_set_ne (Ne.symm hj)] at e2
    obtain ⟨u',r',q⟩:=hl j y v' e1 e2 e3
    refine ⟨u',r', ?_⟩
    rcases q with q | ⟨k,c',e,z'⟩
    ·exact .inl q
    ·refine .inr ⟨k,c',e,z'.sameBut hs ?_⟩
     rintro rfl
     exact hj (nodup_ix hN e1 (I.ok.inj _ _ _ e hc ▸ hi))
  ·by_cases hcc:c'=c
   ·subst hcc; exact ⟨_,hc'⟩
   ·obtain ⟨w2,z2⟩:=I.cell y c' e
    exact ⟨w2,z2.sameBut hs hcc⟩
  ·obtain ⟨e,n,ne,nf,d⟩:=I.pin p hp
   refine ⟨(hs.2 p.1 ?_).trans e,n,ne,nf,d⟩
   intro q
   rw [q,hoc] at e
   have q':oc=p.2:=Option.some.inj e
   exact d w' (by rw [<-q']; exact hocd)
theorem store_ok {M:Model} {A:Around} {E:Value->Shared->Prop} {i:Nat} {x:Str} {v:V} {u:Value} {Q:Unit->Shared->Prop} (I:Zs X pins σ H s) (hN:X.N.Nodup) (hi:X.N[i]?=some x) (hx:Loc X.env.scope x) (r:Z2 v u)
  (h:∀ s',Zs X pins (σ.set i (some v)) H s'->Q () s') (hf:X.fn x=true\/X.env.scope.names.lookup x=some .local:=by first | exact .inl rfl | exact .inr rfl | assumption):wpAny M A (storeName X.env x u) Q E s :=
 store_ok2 I hN hi hx r (fun s' I' _=>h s' I') hf
theorem Zs.call' {s':Shared} {ch:List Addr} (I:Zs X pins σ H s) (ho:s'.os=s.os) (u:Un (frs X.stack) ch H H' s.heap s'.heap) (hok:HOk X.prog X.w H' s'.heap) (hg:AllBare s'.gens)
  (hch:∀ b∈ch,(b∈X.ex\/X.s₀.heap.objs.size<=b)/\b≠X.env.locals/\(∀ x c,X.env.cells.lookup x=some c->c≠b)/\∀ p∈X.pn++pins,p.1≠b):Zs X pins σ H' s':=by
 obtain ⟨h',g',d',t',o'⟩:=s'
 have e:o'=s.os:=ho
 subst e
 exact I.call (g':=g') (t':=t') (d':=d') u hok hg hch
end
abbrev XK:=Value->Option Addr->Hp->Prop
abbrev St:=List (Option V)
abbrev VK:=V->Hp->Prop
abbrev TE:=St->Hp->VK->Prop
abbrev TT:=St->Hp->(Bool->Hp->Prop)->Prop
abbrev TA:=St->Hp->(List V->Hp->Prop)->Prop
structure Ends where
 nx:St->Hp->Prop
 rt:VK
 bk:St->Hp->Prop:=fun _ _=>False
 ct:St->Hp->Prop:=fun _ _=>False
abbrev TS:=Ends->St->Hp->Prop
def EP (X:Cx) (pins:List (Addr × Obj)) (σ:St) (Q:VK) (u:Value) (s':Shared):Prop:=∃ v H',Zs X pins σ H' s'/\Z2 v u/\Q v H'
def TP (X:Cx) (pins:List (Addr × Obj)) (σ:St) (Q:Bool->Hp->Prop) (b:Bool) (s':Shared):Prop:=∃ H',Zs X pins σ H' s'/\Q b H'
def AP (X:Cx) (pins:List (Addr × Obj)) (σ:St) (Q:List V->Hp->Prop) (us:List Value) (s':Shared):Prop:=∃ vs H',Zs X pins σ H' s'/\Z9 vs us/\Q vs H'
def SP (X:Cx) (pins:List (Addr × Obj)) (D:Ends) (f:Flow) (s':Shared):Prop :=
 match f with
 | .next=>∃ σ' H',Zs X pins σ' H' s'/\D.nx σ' H'
 | .brk=>∃ σ' H',Zs X pins σ' H' s'/\D.bk σ' H'
 | .cont=>∃ σ' H',Zs X pins σ' H' s'/\D.ct σ' H'
 | .ret u=>∃ v σ' H',Zs X pins σ' H' s'/\Z2 v u/\D.rt v H'
def PE (X:Cx) (e:Expr) (t:TE):Prop :=
 ∀ (pins:List (Addr × Obj)) (s:Shared) (σ:St) (H:Hp) (Q:VK),Zs X pins σ H s->t σ H Q->wpAny (model X.prog X.w) X.A (eval e X.env) (EP X pins σ Q) X.xe s
def PT (X:Cx) (e:Expr) (t:TT):Prop :=
 ∀ (pins:List (Addr × Obj)) (s:Shared) (σ:St) (H:Hp) (Q:Bool->Hp->Prop),Zs X pins σ H s->t σ H Q->wpAny (model X.prog X.w) X.A (isTrue e X.env (eval e X.env)) (TP X pins σ Q) X.xe s
def PW (X:Cx) (e:Expr) (t:TT):Prop :=
 ∀ (whole:Sem Value) (pins:List (Addr × Obj)) (s:Shared) (σ:St) (H:Hp) (Q:Bool->Hp->Prop),Zs X pins σ H s->t σ H Q->wpAny (model X.prog X.w) X.A (isTrue e X.env whole) (TP X pins σ Q) X.xe s
theorem PW.pt {X:Cx} {e:Expr} {t:TT} (h:PW X e t):PT X e t:=h _
def PA (X:Cx) (es:List Expr) (t:TA):Prop :=
 ∀ (pos:Pos) (pins:List (Addr × Obj)) (s:Shared) (σ:St) (H:Hp) (Q:List V->Hp->Prop),Zs X pins σ H s->t σ H Q->wpAny (model X.prog X.w) X.A (spliced (backTo pos (starEach es X.env))) (AP X pins σ Q) X.xe s
def PS (X:Cx) (st:Stmt) (t:TS):Prop :=
 ∀ (pins:List (Addr × Obj)) (s:Shared) (σ:St) (H:Hp) (D:Ends),Zs X pins σ H s->t D σ H->wpAny (model X.prog X.w) X.A (exec st X.env) (SP X pins D) X.xe s
def PSs (X:Cx) (st:List Stmt) (t:TS):Prop :=
 ∀ (pins:List (Addr × Obj)) (s:Shared) (σ:St) (H:Hp) (D:Ends),Zs X pins σ H s->t D σ H->wpAny (model X.prog X.w) X.A (execs st X.env) (SP X pins D) X.xe s
theorem Y9 {α:Type} {t:Sem α} {Q Q':α->Shared->Prop} {M:Model} {A:Around} {E:Value->Shared->Prop} {s:Shared} (h:wpAny M A t Q E s) (hQ:∀ a s,Q a s->Q' a s):wpAny M A t Q' E s:=wpAny_mono h hQ fun _ _ x=>x
section
variable {X:Cx}
def tVar (i:Nat):TE:=fun σ H Q=>∃ v,σ[i]?=some (some v)/\Q v H
def tC (v:V):TE:=fun _ H Q=>Q v H
theorem pe_var {i:Nat} {x:Str} {pos:Pos} (hN:X.N[i]?=some x) (hv:Vis X.env.scope x) (hd:(x == ("__debug__" : Str))=false:=by decide) (hcd:(x == ("__classdict__" : Str))=false:=by decide):PE X (.Name x pos) (tVar i):=by
 intro pins s σ H Q I h
 obtain ⟨v,e,h⟩:=h
 obtain ⟨m,hn,hl⟩:=I.loc
 obtain ⟨u,r,l⟩:=hl i x v hN e hv
 have fin:EP X pins σ Q u s:=⟨v,H,I,r,h⟩
 rcases l with ⟨hk,hm⟩ | ⟨hk,c,hc,hcell⟩
 ·exact wpAny_Name (wpAny_loadName_local I.ok.kind hk hn hm fin) hd
 ·rcases hk with hk | hk
  ·exact wpAny_Name (wpAny_loadName_cell I.ok.kind hk hc hcell fin) hd
  ·exact wpAny_Name (wpAny_loadName_free I.ok.kind hk hc hcell fin hcd) hd
theorem Zq {i j pos}:PE X (.Constant (.int i) j pos) (tC (.int i)):=fun _ _ _ H _ I h=>wpAny_Constant_int ⟨.int i,H,I.tok _,⟨_,rfl⟩,h⟩
theorem pe_bl {b j pos}:PE X (.Constant (.bool b) j pos) (tC (.bl b)):=fun _ _ _ H _ I h=>Constant_bool ⟨.bl b,H,I,rfl,h⟩
theorem pe_non {j pos}:PE X (.Constant .none j pos) (tC .non):=fun _ _ _ H _ I h=>Constant_none ⟨.non,H,I,rfl,h⟩
theorem Zc {x j pos}:PE X (.Constant (.str x) j pos) (tC (.str x)):=fun _ _ _ H _ I h=>Calls.Constant_str ⟨.str x,H,I.tok _,⟨_,rfl⟩,h⟩
def Gl (X:Cx) (x:Str):Prop:=X.env.kindOf x=some .globalImplicit
theorem ld_glob {E:Value->Shared->Prop} {pins:List (Addr × Obj)} {s:Shared} {σ:St} {H:Hp} {x:Str} {u:Value} {pos:Pos} {Q:Value->Shared->Prop} (I:Zs X pins σ H s) (hg:Gl X x) (hm:X.mg x=some u) (h:Q u s)
  (hd:(x == ("__debug__" : Str))=false:=by decide):wpAny (model X.prog X.w) X.A (eval (.Name x pos) X.env) Q E s :=
 Calls.Name_function_global I.ok.kind hg (Calls.loadGlobal_global (by rw [I.ok.glob]; exact I.mod.glob.keeps I.bk) hm h) hd
theorem ld_blt {E:Value->Shared->Prop} {pins:List (Addr × Obj)} {s:Shared} {σ:St} {H:Hp} {x:Str} {u:Value} {pos:Pos} {Q:Value->Shared->Prop} (I:Zs X pins σ H s) (hg:Gl X x) (hm:X.mg x=none) (hv:bootBuiltins x=some u) (h:Q u s)
  (hn:x ≠ "__name__" := by decide) (hd:(x == ("__debug__" : Str))=false:=by decide):wpAny (model X.prog X.w) X.A (eval (.Name x pos) X.env) Q E s:=by
 obtain ⟨mb,h1,h2⟩:=I.mod.blt
 exact Calls.Name_function_global I.ok.kind hg (Calls.loadGlobal_builtin (by rw [I.ok.glob]; exact I.mod.glob.keeps I.bk) hm (by rw [I.ok.blt]; exact h1.keeps I.bk) ((h2 x hn).trans hv) h) hd
variable {a b:Expr} {ta tb:TE} {pos:Pos}
def PC (X:Cx) (op:CmpOp) (a b:Expr) (t:TE):Prop :=
 ∀ (pins:List (Addr × Obj)) (s:Shared) (σ:St) (H:Hp) (Q:VK),Zs X pins σ H s->t σ H Q ->
  wpAny (model X.prog X.w) X.A (eval a X.env) (fun v s₁=>wpAny (model X.prog X.w) X.A (eval b X.env) (fun u s₂=>wpAny (model X.prog X.w) X.A (compareOp op v u) (EP X pins σ Q) X.xe s₂) X.xe s₁) X.xe s
def tB (t:TE):TT:=fun σ H Q=>t σ H fun x H1=>∃ c,x=.bl c/\Q c H1
theorem pt_cmp {op:CmpOp} {t:TE} (h:PC X op a b t) (h1:behindInMarks op b=false:=by first | exact nobehind _ (by decide) (by decide) | rfl):PT X (.Compare a [op] [b] pos) (tB t):=by
 intro pins s σ H Q I hw
 refine wpAny_isTrue_Compare1 (Y9 (h pins s σ H _ I hw) fun v s1 h1=>Y9 h1 fun u s2 h2=>Y9 h2 fun c s3 ⟨x,H1,I1,r1,q1⟩=>?_) h1
 obtain ⟨d,rfl,q⟩:=q1
 cases r1
 exact wpAny_truthy_bool ⟨H1,I1,q⟩
variable {tA tB':TT} {rest:List Expr}
def tAnd (t u:TT):TT:=fun σ H Q=>t σ H fun c H1=>if c=true then u σ H1 Q else Q false H1
def tOr (t u:TT):TT:=fun σ H Q=>t σ H fun c H1=>if c=true then Q true H1 else u σ H1 Q
theorem pw_and1 (ha:PT X a tA):PW X (.BoolOp .And [a] pos) tA:=by
 intro wh pins s σ H Q I h
 refine isTrue_and (Y9 (ha pins s σ H Q I h) fun c s1 e=>?_)
 cases c with
 | true=>exact isTrue_and_nil e
 | false=>exact e
theorem pw_or1 (ha:PT X a tA):PW X (.BoolOp .Or [a] pos) tA:=by
 intro wh pins s σ H Q I h
 refine isTrue_or (Y9 (ha pins s σ H Q I h) fun c s1 e=>?_)
 cases c with
 | false=>exact isTrue_or_nil e
 | true=>exact e
theorem pw_and (ha:PT X a tA) (hb:PW X (.BoolOp .And (b::rest) pos) tB'):PW X (.BoolOp .And (a::b::rest) pos) (tAnd tA tB'):=by
 intro wh pins s σ H Q I h
 refine isTrue_and (Y9 (ha pins s σ H _ I h) fun c s1 ⟨H1,I1,q1⟩=>?_)
 cases c with
 | true=>exact hb wh pins s1 σ H1 Q I1 q1
 | false=>exact ⟨H1,I1,q1⟩
theorem pw_or (ha:PT X a tA) (hb:PW X (.BoolOp .Or (b::rest) pos) tB'):PW X (.BoolOp .Or (a::b::rest) pos) (tOr tA tB'):=by
 intro wh pins s σ H Q I h
 refine isTrue_or (Y9 (ha pins s σ H _ I h) fun c s1 ⟨H1,I1,q1⟩=>?_)
 cases c with
 | true=>exact ⟨H1,I1,q1⟩
 | false=>exact hb wh pins s1 σ H1 Q I1 q1
def tIf (t:TT) (ta tb:TE):TE:=fun σ H Q=>t σ H fun c H1=>if c=true then ta σ H1 Q else tb σ H1 Q
theorem pe_ifExp {c:Expr} (hc:PT X c tA) (ha:PE X a ta) (hb:PE X b tb):PE X (.IfExp c a b pos) (tIf tA ta tb):=by
 intro pins s σ H Q I h
 refine wpAny_IfExp (Y9 (hc pins s σ H _ I h) fun d s1 ⟨H1,I1,q1⟩=>?_)
 cases d with
 | true=>exact ha pins s1 σ H1 Q I1 q1
 | false=>exact hb pins s1 σ H1 Q I1 q1
end
def Z0 (K:W.Frag) (H:Hp) (a:Addr) (xs:List V):Prop :=
 Rd H a (.lst xs) \/
  ∃ (o:Obj) (its:Array Value) (n:Nat),K.lookup a=some o/\o.cls=.type "list" /\ o.dict=none/\o.data=.seq its n/\its.size<=sizeLine/\Z9 xs its.toList
def Z6 (K:W.Frag) (H:Hp) (a:Addr) (xs:List V):Prop :=
 Rd H a (.tup xs) \/
  ∃ (o:Obj) (its:Array Value) (n:Nat),K.lookup a=some o/\o.cls=.type "tuple" /\ o.dict=none/\o.data=.seq its n/\its.size<=sizeLine/\Z9 xs its.toList
def absV:Value->Option V
 | .none=>some .non
 | .bool b=>some (.bl b)
 | .int i _=>some (.int i)
 | .str x _=>some (.str x)
 | .bytes b _=>some (.byt b)
 | .float b _=>some (.flt b)
 | .ref a=>some (.ref a)
 | .type n=>some (.ty n)
 | _=>none
theorem Z2.abs {x:V} {u:Value} (r:Z2 x u):absV u=some x:=by
 cases x with
 | non=>cases r; rfl
 | bl _=>cases r; rfl
 | int _=>obtain ⟨t,rfl⟩:=r; rfl
 | str _=>obtain ⟨t,rfl⟩:=r; rfl
 | byt _=>obtain ⟨t,rfl⟩:=r; rfl
 | flt _=>obtain ⟨t,rfl⟩:=r; rfl
 | ref _=>cases r; rfl
 | ty _=>cases r; rfl
theorem Z2.inj {x y:V} {u:Value} (r:Z2 x u) (q:Z2 y u):x=y:=Option.some.inj (r.abs.symm.trans q.abs)
theorem Z9.inj:∀ {xs ys:List V} {us:List Value},Z9 xs us->Z9 ys us->xs=ys
 | _,_,_,.nil,.nil=>rfl
 | _,_,_,.cons r t,.cons r' t'=>by rw [r.inj r',Z9.inj t t']
section
variable {X:Cx} {pins:List (Addr × Obj)} {σ:St} {H:Hp} {s:Shared} {a:Addr} {xs ys:List V}
theorem Z0.of {K:W.Frag} (h:H a=some (.lst xs)):Z0 K H a xs:=.inl (.inl h)
theorem Z6.of {K:W.Frag} (h:H a=some (.tup xs)):Z6 K H a xs:=.inl (.inl h)
theorem Zs.list (I:Zs X pins σ H s) (h:Z0 X.K H a xs):∃ its:List Value,Z9 xs its/\PlainL s.heap a its.toArray/\xs.length<=sizeLine:=by
 rcases h with h | ⟨o,its,n,hk,hc,hd,hs,hz,r⟩
 ·obtain ⟨z,its,n,r,e⟩:=h.ok I.hok
  exact ⟨its,r,⟨_,n,e,rfl,rfl,rfl⟩,z⟩
 ·refine ⟨its.toList,r,⟨o,n,I.kIn a o hk,hc,hd,by simpa using hs⟩, ?_⟩
  have e:=r.length
  simp only [Array.length_toList] at e
  omega
theorem Zs.tupleN (I:Zs X pins σ H s) (h:Z6 X.K H a xs):∃ its:List Value,Z9 xs its/\TupN s.heap a its.toArray/\xs.length<=sizeLine:=by
 rcases h with h | ⟨o,its,n,hk,hc,hd,hs,hz,r⟩
 ·obtain ⟨z,its,r,p⟩:=h.ok I.hok
  exact ⟨its,r,p,z⟩
 ·refine ⟨its.toList,r,⟨o,I.kIn a o hk,hc,⟨n,by simpa using hs⟩,hd⟩, ?_⟩
  have e:=r.length
  simp only [Array.length_toList] at e
  omega
theorem Zs.tuple (I:Zs X pins σ H s) (h:Z6 X.K H a xs):∃ its:List Value,Z9 xs its/\IsTup s.heap a its.toArray/\xs.length<=sizeLine:=by
 rcases h with h | ⟨o,its,n,hk,hc,hd,hs,hz,r⟩
 ·obtain ⟨z,its,r,p⟩:=h.ok I.hok
  exact ⟨its,r,p.tup,z⟩
 ·refine ⟨its.toList,r,⟨o,I.kIn a o hk,hc,n,by simpa using hs⟩, ?_⟩
  have e:=r.length
  simp only [Array.length_toList] at e
  omega
theorem Zs.list_inj (I:Zs X pins σ H s) (h:Z0 X.K H a xs) (h':Z0 X.K H a ys):xs=ys:=by
 obtain ⟨its,r,⟨o,n,e,_,_,d⟩,_⟩:=I.list h
 obtain ⟨its',r',⟨o',n',e',_,_,d'⟩,_⟩:=I.list h'
 rw [e] at e'; cases e'
 rw [d] at d'
 injection d' with d1 _
 have:its=its':=by simpa using congrArg Array.toList d1
 subst this
 exact r.inj r'
theorem Zs.tuple_inj (I:Zs X pins σ H s) (h:Z6 X.K H a xs) (h':Z6 X.K H a ys):xs=ys:=by
 obtain ⟨its,r,⟨o,e,_,n,d⟩,_⟩:=I.tuple h
 obtain ⟨its',r',⟨o',e',_,n',d'⟩,_⟩:=I.tuple h'
 rw [e] at e'; cases e'
 rw [d] at d'
 injection d' with d1 _
 have:its=its':=by simpa using congrArg Array.toList d1
 subst this
 exact r.inj r'
end
abbrev Cx.wish (X:Cx) (E:Value->Shared->Prop):Cx:={ X with xe:=E }
abbrev Cx.nox (X:Cx):Cx:=X.wish fun _ _=>False
theorem Cx.Ok.wish {X:Cx} (ok:X.Ok) (E:Value->Shared->Prop):(X.wish E).Ok :=
 ⟨ok.mod,ok.kind,ok.glob,ok.blt,ok.above,ok.inj,ok.has,ok.cab,ok.hd,ok.frames,ok.stk,ok.exf,ok.bs,ok.bsz,ok.noex,ok.exfs,ok.funs,ok.frf⟩
theorem Cx.Ok.unwish {X:Cx} {E:Value->Shared->Prop} (ok:(X.wish E).Ok):X.Ok :=
 ⟨ok.mod,ok.kind,ok.glob,ok.blt,ok.above,ok.inj,ok.has,ok.cab,ok.hd,ok.frames,ok.stk,ok.exf,ok.bs,ok.bsz,ok.noex,ok.exfs,ok.funs,ok.frf⟩
section
variable {X:Cx} {pins:List (Addr × Obj)} {σ:St} {H:Hp} {s:Shared} {E:Value->Shared->Prop}
theorem Zs.wish (I:Zs X pins σ H s) (E:Value->Shared->Prop):Zs (X.wish E) pins σ H s:=⟨I.ok.wish E,I.os,I.bare,I.base,I.loc,I.cell,I.free,I.freeC,I.pin,I.hok,I.len⟩
theorem Zs.unwish (I:Zs (X.wish E) pins σ H s):Zs X pins σ H s:=⟨I.ok.unwish,I.os,I.bare,I.base,I.loc,I.cell,I.free,I.freeC,I.pin,I.hok,I.len⟩
theorem SP.unwish {D:Ends} {f:Flow} {s':Shared} (h:SP (X.wish E) pins D f s'):SP X pins D f s':=by
 cases f with
 | next=>obtain ⟨σ',H',I,q⟩:=h; exact ⟨σ',H',I.unwish,q⟩
 | brk=>obtain ⟨σ',H',I,q⟩:=h; exact ⟨σ',H',I.unwish,q⟩
 | cont=>obtain ⟨σ',H',I,q⟩:=h; exact ⟨σ',H',I.unwish,q⟩
 | ret u=>obtain ⟨v,σ',H',I,r,q⟩:=h; exact ⟨v,σ',H',I.unwish,r,q⟩
theorem PSs.nox {st:List Stmt} {t:TS} (h:PSs X.nox st t):PSs X st t:=fun pins s σ H D I hw =>
 wpAny_mono (h pins s σ H D (I.wish _) hw) (fun _ _ q=>q.unwish) fun _ _ z=>False.elim z
end
section
variable {X:Cx} {st:Stmt} {rest:List Stmt} {t u:TS} {e:Expr} {te:TE} {pos:Pos}
def tNext:TS:=fun D σ H=>D.nx σ H
def tSeq (t u:TS):TS:=fun D σ H=>t { D with nx:=u D } σ H
theorem Za:PSs X [] tNext:=fun _ _ σ H _ I h=>wpAny_execs_nil ⟨σ,H,I,h⟩
theorem Zj (h1:PS X st t) (h2:PSs X rest u):PSs X (st::rest) (tSeq t u):=by
 intro pins s σ H D I h
 refine wpAny_execs_cons (Y9 (h1 pins s σ H { D with nx:=u D } I h) fun f s1 q=>?_)
 cases f with
 | next =>
  obtain ⟨σ',H',I',q⟩:=q
  exact h2 pins s1 σ' H' D I' q
 | ret v=>exact q
 | brk=>exact q
 | cont=>exact q
theorem Zb (h1:PS X st t):PSs X [st] t:=by
 intro pins s σ H D I h
 refine wpAny_execs_cons (Y9 (h1 pins s σ H D I h) fun f s1 q=>?_)
 cases f with
 | next=>exact wpAny_execs_nil q
 | ret v=>exact q
 | brk=>exact q
 | cont=>exact q
theorem Zs.quiet {pins:List (Addr × Obj)} {σ:St} {H:Hp} {s:Shared} (I:Zs X pins σ H s):interactive X.env=false:=by simp [interactive,I.ok.kind]
def tDrop (te:TE):TS:=fun D σ H=>te σ H fun _ H1=>D.nx σ H1
theorem ps_expr (he:PE X e te) (hs:swapsWith e none pos.line X.env=pure false:=by rfl):PS X (.Expr e pos) (tDrop te):=by
 intro pins s σ H D I h
 exact wpAny_Expr_any (Y9 (he pins s σ H _ I h) fun v s1 ⟨x,H1,I1,r1,q1⟩=>⟨σ,H1,I1,q1⟩) I.quiet hs
def tRet (te:TE):TS:=fun D σ H=>te σ H D.rt
theorem Zp (he:PE X e te):PS X (.Return (some e) pos) (tRet te):=by
 intro pins s σ H D I h
 exact wpAny_Return_some (Y9 (he pins s σ H _ I h) fun v s1 ⟨x,H1,I1,r1,q1⟩=>⟨x,σ,H1,I1,r1,q1⟩)
def tIfS (c:TT) (t u:TS):TS:=fun D σ H=>c σ H fun b H1=>if b=true then t D σ H1 else u D σ H1
theorem Yz {c:Expr} {a b:List Stmt} {tc:TT} (hc:PT X c tc) (ha:PSs X a t) (hb:PSs X b u):PS X (.If c a b pos) (tIfS tc t u):=by
 intro pins s σ H D I h
 refine wpAny_If (Y9 (hc pins s σ H _ I h) fun d s1 ⟨H1,I1,q1⟩=>?_)
 cases d with
 | true=>exact ha pins s1 σ H1 D I1 q1
 | false=>exact hb pins s1 σ H1 D I1 q1
end
abbrev TG:=V->St->Hp->(St->Hp->Prop)->Prop
abbrev TGs:=List V->St->Hp->(St->Hp->Prop)->Prop
def PG (X:Cx) (target:Expr) (t:TG):Prop :=
 ∀ (pins:List (Addr × Obj)) (s:Shared) (σ:St) (H:Hp) (v:V) (u:Value) (Q:St->Hp->Prop),Zs X pins σ H s->Z2 v u->t v σ H Q ->
  wpAny (model X.prog X.w) X.A (assign target X.env u) (fun _ s'=>∃ σ' H',Zs X pins σ' H' s'/\Q σ' H') X.xe s
def PGs (X:Cx) (ts:List Expr) (t:TGs):Prop :=
 ∀ (pins:List (Addr × Obj)) (s:Shared) (σ:St) (H:Hp) (vs:List V) (us:List Value) (Q:St->Hp->Prop),Zs X pins σ H s->Z9 vs us->t vs σ H Q ->
  wpAny (model X.prog X.w) X.A (assignInOrder ((assignEach ts X.env).map (·.2)) us) (fun _ s'=>∃ σ' H',Zs X pins σ' H' s'/\Q σ' H') X.xe s
abbrev TSet:=V->V->V->Hp->(Hp->Prop)->Prop
def PSet (X:Cx) (t:TSet):Prop :=
 ∀ (pins:List (Addr × Obj)) (s:Shared) (σ:St) (H:Hp) (o i v:V) (ov iv u:Value) (Q:Hp->Prop),Zs X pins σ H s->Z2 o ov->Z2 i iv->Z2 v u->t o i v H Q ->
  wpAny (model X.prog X.w) X.A (setItem ov iv u) (fun _ s'=>∃ H',Zs X pins σ H' s'/\Q H') X.xe s
section
variable {X:Cx} {pos:Pos}
def gName (i:Nat):TG:=fun v σ H Q=>Q (σ.set i (some v)) H
theorem pg_name {i:Nat} {x:Str} (hN:X.N.Nodup) (hi:X.N[i]?=some x) (hx:Loc X.env.scope x) (hf:X.fn x=true\/X.env.scope.names.lookup x=some .local:=by first | exact .inl rfl | exact .inr rfl | assumption):PG X (.Name x pos) (gName i):=by
 intro pins s σ H v u Q I r h
 exact wpAny_assign_Name (store_ok I hN hi hx r (fun s' I'=>⟨_,H,I',h⟩) hf)
def gNil:TGs:=fun vs σ H Q=>vs=[]/\Q σ H
def gCons (t:TG) (u:TGs):TGs:=fun vs σ H Q=>∃ v r,vs=v::r/\t v σ H fun σ' H'=>u r σ' H' Q
theorem pgs_nil:PGs X [] gNil:=by
 intro pins s σ H vs us Q I r h
 obtain ⟨e,h⟩:=h
 subst e
 cases r
 exact assignInOrder_nil ⟨σ,H,I,h⟩
theorem Yj {e:Expr} {es:List Expr} {t:TG} {u:TGs} (h1:PG X e t) (h2:PGs X es u)
  (hs:(assignEach (e::es) X.env).map (·.2)=assign e X.env::(assignEach es X.env).map (·.2):=by rfl):PGs X (e::es) (gCons t u):=by
 intro pins s σ H vs us Q I r h
 obtain ⟨v,vr,e1,h⟩:=h
 subst e1
 cases r with
 | cons r rr =>
  rw [hs]
  refine assignInOrder_cons (Y9 (h1 pins s σ H _ _ _ I r h) fun _ s1 ⟨σ1,H1,I1,q1⟩=>?_)
  exact h2 pins s1 σ1 H1 _ _ Q I1 rr q1
def gTup (K:W.Frag) (n:Nat) (t:TGs):TG:=fun v σ H Q=>∃ a xs,v=.ref a/\Z6 K H a xs/\xs.length=n/\t xs σ H Q
theorem pg_tup {es:List Expr} {k:Nat} {t:TGs} {n:Nat} (hc:X.calm=true) (h:PGs X es t)
  (hn:(assignEach es X.env).length=n:=by rfl) (hst:(assignEach es X.env).findIdx? (·.1)=none:=by rfl):PG X (.Tuple es k pos) (gTup X.K n t):=by
 intro pins s σ H v u Q I r hw
 obtain ⟨a,xs,e1,hq,hl,hw⟩:=hw
 subst e1
 cases r
 obtain ⟨its,rv,ht,hz⟩:=I.tuple hq
 refine assign_Tuple_tuple (I.ok.hd hc) ht (by simp [hn, <-hl,rv.length]) hst fun h' hx=>?_
 have I1:Zs X pins σ H { s with heap:=h' }:=I.kept (t':=s.toks) fun b o e=>hx b o (Nat.ne_of_lt (Heap.lt_size e)) e
 exact h pins _ σ H xs _ Q I1 (by simpa using rv) hw
def gSub (to ti:TE) (t:TSet):TG:=fun v σ H Q=>to σ H fun o H1=>ti σ H1 fun i H2=>t o i v H2 fun H3=>Q σ H3
theorem pg_sub {o i:Expr} {to ti:TE} {t:TSet} (ho:PE X o to) (hi:PE X i ti) (hs:PSet X t)
  (ha:∀ v,assign (.Subscript o i pos) X.env v=(do
   let ov <-holding [v] (eval o X.env)
   let iv <-holding [v,ov] (eval i X.env)
   standAt pos
   holding [v,ov,iv] (setItem ov iv v)
   release [v,ov,iv] []):=by intro _; rfl):PG X (.Subscript o i pos) (gSub to ti t):=by
 intro pins s σ H v u Q I r h
 rw [ha]
 refine wpAny_bind (wpAny_holding (Y9 (ho pins s σ H _ I h) fun ov s1 ⟨x,H1,I1,r1,q1⟩=>?_))
 refine wpAny_bind (wpAny_holding (Y9 (hi pins s1 σ H1 _ I1 q1) fun iv s2 ⟨y,H2,I2,r2,q2⟩=>?_))
 refine wpAny_bind (wpAny_standAt (wpAny_bind (wpAny_holding (Y9 (hs pins s2 σ H2 x y v ov iv u _ I2 r1 r2 r q2) fun _ s3 ⟨H3,I3,q3⟩=>?_))))
 exact wpAny_release ⟨σ,H3,I3,q3⟩
def tAsg (te:TE) (g:TG):TS:=fun D σ H=>te σ H fun x H1=>g x σ H1 D.nx
theorem ps_asg {tg e:Expr} {te:TE} {g:TG} (he:PE X e te) (hg:PG X tg g) (hs:swapsWithSole [tg] e pos.line X.env=pure false:=by rfl) (hw:swappedStores [tg] e X.env=pure none:=by rfl)
  (h1:(assignEach [tg] X.env).map (·.2)=[assign tg X.env]:=by rfl):PS X (.Assign [tg] e pos) (tAsg te g):=by
 intro pins s σ H D I h
 refine wpAny_Assign_stores (Y9 (he pins s σ H _ I h) fun v s1 ⟨x,H1,I1,r1,q1⟩=>?_) hs hw
 rw [h1]
 exact Y9 (hg pins s1 σ H1 x v _ I1 r1 q1) fun _ s2 q=>q
theorem ps_set {i:Nat} {x:Str} {e:Expr} {te:TE} {pos':Pos} (hN:X.N.Nodup) (hi:X.N[i]?=some x) (hx:Loc X.env.scope x) (he:PE X e te) (hs:swapsWith e (some (.Name x pos')) pos.line X.env=pure false:=by rfl) (hf:X.fn x=true\/X.env.scope.names.lookup x=some .local:=by first | exact .inl rfl | exact .inr rfl | assumption) :
  PS X (.Assign [.Name x pos'] e pos) (tAsg te (gName i)):=by
 intro pins s σ H D I h
 refine wpAny_Assign_Name (Y9 (he pins s σ H _ I h) fun v s1 ⟨y,H1,I1,r1,q1⟩=>?_) hs
 exact store_ok I1 hN hi hx r1 (fun s2 I2=>⟨_,H1,I2,q1⟩) hf
end
section
variable {X:Cx} {pos:Pos}
end
structure It where
 go:Nat->Hp->Prop
 yld:Nat->Hp->V->Hp->Prop
 stop:Nat->Hp->Prop
def FpOk (X:Cx) (pins:List (Addr × Obj)) (H:Hp) (b:Addr):Prop :=
 H b=none/\b≠X.env.locals/\b ∉ X.fs/\(b∈X.ex\/X.s₀.heap.objs.size<=b)/\(∀ x c,X.env.cells.lookup x=some c->c≠b)/\∀ p∈X.pn++pins,p.1≠b
theorem Zs.fpOk {X:Cx} {pins:List (Addr × Obj)} {σ:St} {H H':Hp} {s:Shared} {b:Addr} (I:Zs X pins σ H s) (hb:s.heap.objs.size<=b) (hn:H' b=none):FpOk X pins H' b:=by
 refine ⟨hn,Nat.ne_of_gt (Nat.lt_of_lt_of_le I.lt hb),I.nofs hb,.inr (Nat.le_trans I.sz hb),fun x c e z=>?_,fun p hp z=>?_⟩
 ·obtain ⟨v,q⟩:=I.cell x c e
  exact absurd (Nat.lt_of_lt_of_le q.lt (by rw [z]; exact hb)) (Nat.lt_irrefl _)
 ·exact absurd (Nat.lt_of_lt_of_le (Heap.lt_size (I.pin p hp).1) (by rw [z]; exact hb)) (Nat.lt_irrefl _)
structure Turn (P:Program) (w:World) (K:W.Frag) (tg:Expr) (J:It) (fp:List Addr) (it:Addr) (tn:Nat->Heap->Prop):Prop where
 mem:it∈fp
 obj:∀ i h,tn i h->∀ b∈fp,∃ o,h.get? b=some o/\∀ v,o.data≠.cell v
 keep:∀ i h h',tn i h->(∀ b∈fp,∀ o,h.get? b=some o->h'.get? b=some o)->tn i h'
 item:∀ (X:Cx),X.prog=P->X.w=w->X.K=K->X.calm=true->∀ (i:Nat) (pins:List (Addr × Obj)) (s:Shared) (σ:St) (H:Hp) (E:Value->Shared->Prop),Zs X pins σ H s->(∀ b∈fp,FpOk X pins H b)->tn i s.heap->J.go i H ->
  wpAny (model P w) X.A (pyNext (.ref it)) (fun r s1=>∃ u,r=some u /\
   wpAny (model P w) X.A (letOwnedTupleGo tg (.ref it) u) (fun _ s2=>∃ x H',Zs X pins σ H' s2/\Z2 x u/\J.yld i H x H'/\tn (i+1) s2.heap/\∀ b∈fp,H' b=none) E s1) E s
 done:∀ (X:Cx),X.prog=P->X.w=w->X.K=K->X.calm=true->∀ (i:Nat) (pins:List (Addr × Obj)) (s:Shared) (σ:St) (H:Hp) (E:Value->Shared->Prop),Zs X pins σ H s->(∀ b∈fp,FpOk X pins H b)->tn i s.heap->J.stop i H ->
  wpAny (model P w) X.A (pyNext (.ref it)) (fun r s1=>r=none/\Zs X pins σ H s1) E s
 self:∀ (A:Around) (i:Nat) (s:Shared) (Q:Value->Shared->Prop) (E:Value->Shared->Prop),tn i s.heap->Q (.ref it) s->wpAny (model P w) A (pyIter (.ref it)) Q E s
abbrev TI:=St->Hp->(It->Hp->Prop)->Prop
def PIE (X:Cx) (pins:List (Addr × Obj)) (σ:St) (tg:Expr) (R:It->Hp->Prop) (itv:Value) (s2:Shared):Prop :=
 ∃ (it:Addr) (fp:List Addr) (tn:Nat->Heap->Prop) (J:It) (H':Hp),itv=.ref it/\Zs X pins σ H' s2/\Turn X.prog X.w X.K tg J fp it tn/\tn 0 s2.heap/\(∀ b∈fp,FpOk X pins H' b)/\R J H'
def PI (X:Cx) (tg iter:Expr) (wi:TI):Prop :=
 ∀ (pins:List (Addr × Obj)) (s:Shared) (σ:St) (H:Hp) (R:It->Hp->Prop),Zs X pins σ H s->wi σ H R ->
  wpAny (model X.prog X.w) X.A (eval iter X.env) (fun v s1=>wpAny (model X.prog X.w) X.A (pyIter v) (PIE X pins σ tg R) X.xe s1) X.xe s
theorem go_of {M:Model} {A:Around} {E:Value->Shared->Prop} {s:Shared} {tg:Expr} {it:Addr} {u:Value} {o:Obj} {n:String} {vs:Array Value} {Q:Unit->Shared->Prop} (ho:s.heap.get? it=some o) (hc:o.cls=.type n) (hd:o.data=.fields vs)
    (hn:["enumerate","zip","dict_itemiterator","dict_reverseitemiterator","odict_iterator","itertools.zip_longest","itertools.pairwise"].contains n=false) (hQ:Q () s):wpAny M A (letOwnedTupleGo tg (.ref it) u) Q E s:=by
  unfold letOwnedTupleGo
  cases tg <;> first
    | exact wpAny_pure hQ
    | (cases u <;> first
        | exact wpAny_pure hQ
        | (refine wpAny_bind (wpAny_load ho ?_)
           rw [hc,hd]
           show wpAny M A (if (["enumerate","zip","dict_itemiterator","dict_reverseitemiterator","odict_iterator","itertools.zip_longest","itertools.pairwise"].contains n && vs[0]? == some (rawInt _))=true then _ else _) Q E s
           rw [if_neg (by intro h; rw [hn,Bool.false_and] at h; cases h)]
           exact wpAny_pure hQ))
def Itl (K:W.Frag) (a:Addr):It :=
 ⟨fun i H=>∃ xs x,Z0 K H a xs/\xs[i]?=some x,fun i H x H'=>H'=H/\∀ xs,Z0 K H a xs->xs[i]?=some x,fun i H=>∃ xs,Z0 K H a xs/\xs.length<=i⟩
def Itt (K:W.Frag) (a:Addr):It :=
 ⟨fun i H=>∃ xs x,Z6 K H a xs/\xs[i]?=some x,fun i H x H'=>H'=H/\∀ xs,Z6 K H a xs->xs[i]?=some x,fun i H=>∃ xs,Z6 K H a xs/\xs.length<=i⟩
def Itr (lo:Int) (n:Nat):It:=⟨fun i _=>i<n,fun i H x H'=>H'=H/\x=.int (lo+i),fun i _=>n<=i⟩
theorem turn_list {P:Program} {w:World} {K:W.Frag} {tg:Expr} (a it:Addr):Turn P w K tg (Itl K a) [it] it (fun i h=>h.IsListIter it a i) where
 mem:=by simp
 obj:=fun i h st b hb=>by
  have e:b=it:=by simpa using hb
  subst e
  obtain ⟨o,e,c,d⟩:=st
  exact ⟨o,e,fun v z=>by rw [d] at z; cases z⟩
 keep:=fun i h h' st k=>st.at fun o e=>k it (by simp) o e
 item:=by
  intro X hP hw hK hc i pins s σ H E I hf st hg
  subst hP hw hK
  obtain ⟨xs,x,hq,hx⟩:=hg
  obtain ⟨its,rv,p,hz⟩:=I.list hq
  obtain ⟨u,hu,ru⟩:=rv.get hx
  obtain ⟨f0,f1,f2,f3,f4,f5⟩:=hf it (by simp)
  refine wpAny_pyNext_list_item st p.isList (x:=u) (by simpa using hu) fun h' st' sb=>?_
  have I1:Zs X pins σ H { s with heap:=h' }:=I.turned (t':=s.toks) (fun b o hb e=>(sb.2 b hb).trans e) f0 f1 f3 f4 f5
  obtain ⟨o,e,c,d⟩:=id st'
  exact ⟨u,rfl,go_of (s:={ s with heap:=h' }) e c d (by decide) ⟨x,H,I1,ru,⟨rfl,fun ys hy=>by rw [I.list_inj hy hq]; exact hx⟩,st',fun b hb=>(hf b hb).1⟩⟩
 done:=by
  intro X hP hw hK hc i pins s σ H E I hf st hg
  subst hP hw hK
  obtain ⟨xs,hq,hx⟩:=hg
  obtain ⟨its,rv,p,hz⟩:=I.list hq
  obtain ⟨f0,f1,f2,f3,f4,f5⟩:=hf it (by simp)
  have hl:=rv.length
  exact wpAny_pyNext_list_end (I.ok.hd hc) st p.isList (by simp; omega) fun h' eb=>⟨rfl,I.turned (t':=s.toks) (fun b o hb e=>eb b o hb e) f0 f1 f3 f4 f5⟩
 self:=fun _ _ _ _ _ st h=>wpAny_pyIter_listiter st h
theorem turn_tuple {P:Program} {w:World} {K:W.Frag} {tg:Expr} (a it:Addr):Turn P w K tg (Itt K a) [it] it (fun i h=>h.IsTupleIter it a i) where
 mem:=by simp
 obj:=fun i h st b hb=>by
  have e:b=it:=by simpa using hb
  subst e
  obtain ⟨o,e,c,d⟩:=st
  exact ⟨o,e,fun v z=>by rw [d] at z; cases z⟩
 keep:=fun i h h' st k=>st.at fun o e=>k it (by simp) o e
 item:=by
  intro X hP hw hK hc i pins s σ H E I hf st hg
  subst hP hw hK
  obtain ⟨xs,x,hq,hx⟩:=hg
  obtain ⟨its,rv,p,hz⟩:=I.tuple hq
  obtain ⟨u,hu,ru⟩:=rv.get hx
  obtain ⟨f0,f1,f2,f3,f4,f5⟩:=hf it (by simp)
  refine wpAny_pyNext_tuple_item st (show s.heap.IsTuple a its.toArray from p) (x:=u) (by simpa using hu) fun h' st' sb=>?_
  have I1:Zs X pins σ H { s with heap:=h' }:=I.turned (t':=s.toks) (fun b o hb e=>(sb.2 b hb).trans e) f0 f1 f3 f4 f5
  obtain ⟨o,e,c,d⟩:=id st'
  exact ⟨u,rfl,go_of (s:={ s with heap:=h' }) e c d (by decide) ⟨x,H,I1,ru,⟨rfl,fun ys hy=>by rw [I.tuple_inj hy hq]; exact hx⟩,st',fun b hb=>(hf b hb).1⟩⟩
 done:=by
  intro X hP hw hK hc i pins s σ H E I hf st hg
  subst hP hw hK
  obtain ⟨xs,hq,hx⟩:=hg
  obtain ⟨its,rv,p,hz⟩:=I.tuple hq
  obtain ⟨f0,f1,f2,f3,f4,f5⟩:=hf it (by simp)
  have hl:=rv.length
  exact wpAny_pyNext_tuple_end (I.ok.hd hc) st (show s.heap.IsTuple a its.toArray from p) (by simp; omega) fun h' eb=>⟨rfl,I.turned (t':=s.toks) (fun b o hb e=>eb b o hb e) f0 f1 f3 f4 f5⟩
 self:=fun _ _ _ _ _ st h=>wpAny_pyIter_tupleiter st h
theorem turn_range {P:Program} {w:World} {K:PySem.W.Frag} {tg:Expr} (it:Addr) (lo:Int) (n:Nat):Turn P w K tg (Itr lo n) [it] it (fun i h=>IsRangeIter h it (lo+(i:Nat) * 1) ((n:Int) - (i:Nat)) 1) where
 mem:=by simp
 obj:=fun i h st b hb=>by
  have e:b=it:=by simpa using hb
  subst e
  exact ⟨_,st,fun v z=>by
   have z':Data.fields _=Data.cell v:=z
   cases z'⟩
 keep:=fun i h h' st k=>k it (by simp) _ st
 item:=by
  intro X hP hw hK hc i pins s σ H E I hf st hg
  subst hP hw hK
  obtain ⟨f0,f1,f2,f3,f4,f5⟩:=hf it (by simp)
  have W:=Walks.range (prog:=X.prog) (w:=X.w) (I.ok.hd hc) it lo 1 n
  refine W.item i s _ _ hg st fun v h' tk hv st' kk=>?_
  obtain ⟨t,rfl⟩:=hv
  have I1:Zs X pins σ H { s with heap:=h',toks:=tk }:=I.turned (fun b o hb e=>kk b o (by simpa using hb) e) f0 f1 f3 f4 f5
  refine ⟨_,rfl,go_of (s:={ s with heap:=h',toks:=tk }) (n:="range_iterator") st' rfl rfl (by decide) ⟨.int (lo+i),H,I1,⟨t, ?_⟩,⟨rfl,rfl⟩,st',fun b hb=>(hf b hb).1⟩⟩
  rw [Int.mul_one]
 done:=by
  intro X hP hw hK hc i pins s σ H E I hf st hg
  subst hP hw hK
  obtain ⟨f0,f1,f2,f3,f4,f5⟩:=hf it (by simp)
  exact wpAny_pyNext_range_end (I.ok.hd hc) st (by have:n<=i:=hg; omega) fun h' eb=>⟨rfl,I.turned (t':=s.toks) (fun b o hb e=>eb b o hb e) f0 f1 f3 f4 f5⟩
 self:=fun _ _ _ _ _ st h=>wpAny_pyIter_rangeiter st h
section
variable {X:Cx} {tg:Expr}
def iList (K:W.Frag) (tl:TE):TI:=fun σ H R=>tl σ H fun x H1=>∃ a,x=.ref a/\(∃ xs,Z0 K H1 a xs)/\R (Itl K a) H1
def iTup (K:W.Frag) (tl:TE):TI:=fun σ H R=>tl σ H fun x H1=>∃ a,x=.ref a/\(∃ xs,Z6 K H1 a xs)/\R (Itt K a) H1
theorem Vj {l:Expr} {tl:TE} (hl:PE X l tl):PI X tg l (iList X.K tl):=by
 intro pins s σ H R I h
 refine Y9 (hl pins s σ H _ I h) fun v s1 ⟨x,H1,I1,r1,q1⟩=>?_
 obtain ⟨a,e,⟨xs,hq⟩,q⟩:=q1
 subst e
 cases r1
 obtain ⟨its,rv,p,hz⟩:=I1.list hq
 refine wpAny_pyIter_list p.isList ?_
 refine ⟨s1.heap.objs.size,[s1.heap.objs.size],_,_,H1,rfl,I1.kept (t':=s1.toks) fun b o e=>Heap.get?_push_of_some _ e,turn_list a _,⟨_,Heap.get?_push_size _ rfl,rfl,rfl⟩,fun b hb=>?_,q⟩
 have e:b=s1.heap.objs.size:=by simpa using hb
 subst e
 exact I1.fpOk (Nat.le_refl _) (I1.hok.fresh (Nat.le_refl _))
theorem V0 {l:Expr} {tl:TE} (hl:PE X l tl):PI X tg l (iTup X.K tl):=by
 intro pins s σ H R I h
 refine Y9 (hl pins s σ H _ I h) fun v s1 ⟨x,H1,I1,r1,q1⟩=>?_
 obtain ⟨a,e,⟨xs,hq⟩,q⟩:=q1
 subst e
 cases r1
 obtain ⟨its,rv,p,hz⟩:=I1.tuple hq
 refine wpAny_pyIter_tuple (show s1.heap.IsTuple a its.toArray from p) ?_
 refine ⟨s1.heap.objs.size,[s1.heap.objs.size],_,_,H1,rfl,I1.kept (t':=s1.toks) fun b o e=>Heap.get?_push_of_some _ e,turn_tuple a _,⟨_,Heap.get?_push_size _ rfl,rfl,rfl⟩,fun b hb=>?_,q⟩
 have e:b=s1.heap.objs.size:=by simpa using hb
 subst e
 exact I1.fpOk (Nat.le_refl _) (I1.hok.fresh (Nat.le_refl _))
theorem range_it {pins:List (Addr × Obj)} {σ:St} {H:Hp} {s:Shared} {R:It->Hp->Prop} {E:Value->Shared->Prop} {lo hi:Int} {t u v:Tok} {tk:Nat} (I:Zs X pins σ H s) (h1:-(2 ^ 62)<=lo) (h2:lo<2 ^ 62) (h3:-(2 ^ 62)<=hi) (h4:hi<2 ^ 62)
  (q:R (Itr lo (hi - lo).toNat) H):wpAny (model X.prog X.w) X.A (pyIter (.ref s.heap.objs.size)) (PIE X pins σ tg R) E { s with heap:=s.heap.push { cls:=.type "range",data:=.fields #[.int lo t,.int hi u,.int 1 v] },toks:=tk }:=by
 refine wpAny_pyIter_range (IsRange.new ..) (small_one h1 h2 h3 h4) ?_
 have I1:Zs X pins σ H { s with heap:=s.heap.push { cls:=.type "range",data:=.fields #[.int lo t,.int hi u,.int 1 v] },toks:=tk }:=I.kept fun b o e=>Heap.get?_push_of_some _ e
 refine ⟨(s.heap.push { cls:=.type "range",data:=.fields #[.int lo t,.int hi u,.int 1 v] }).objs.size,[(s.heap.push { cls:=.type "range",data:=.fields #[.int lo t,.int hi u,.int 1 v] }).objs.size],_,_,H,rfl,
  I1.kept (t':=tk) fun b o e=>Heap.get?_push_of_some _ e,turn_range _ lo (hi - lo).toNat, ?_,fun b hb=>?_,q⟩
 ·have e1:lo+((0:Nat):Int) * 1=lo:=by simp
  have e2:(((hi - lo).toNat:Nat):Int) - ((0:Nat):Int)=Builtin.Range.rangeSize lo hi 1:=by rw [rangeSize_one]; split <;> omega
  show IsRangeIter _ _ (lo+((0:Nat):Int) * 1) ((((hi - lo).toNat:Nat):Int) - ((0:Nat):Int)) 1
  rw [e1,e2]
  exact Heap.get?_push_size _ rfl
 ·have e:b=(s.heap.push { cls:=.type "range",data:=.fields #[.int lo t,.int hi u,.int 1 v] }).objs.size:=by simpa using hb
  subst e
  exact I1.fpOk (Nat.le_refl _) (I1.hok.fresh (Nat.le_refl _))
def iRng1 (ta:TA):TI:=fun σ H R=>ta σ H fun vs H1=>∃ j:Int,vs=[.int j]/\-(2 ^ 62)<=j/\j<2 ^ 62/\R (Itr 0 j.toNat) H1
theorem pi_range1 {a:Expr} {ta:TA} {p pos:Pos} (hg:Gl X "range") (hm:X.mg "range" = none) (ha:PA X [a] ta) (hs:starEach [a] X.env=[(false,eval a X.env)]:=by rfl):PI X tg (.Call (.Name "range" p) [a] [] pos) (iRng1 ta):=by
 intro pins s σ H R I h
 refine Call_ (ld_blt I hg hm boot_range (callWith_type1 (Y9 (ha pos pins s σ H _ I h) fun us s1 ⟨vs,H1,I1,r1,q1⟩=>?_) hs rfl))
 obtain ⟨j,e,q1,q2,q⟩:=q1
 subst e
 cases r1 with
 | cons r rr =>
  cases rr
  obtain ⟨t,rfl⟩:=r
  exact call_range_1 (range_it I1 (by omega) (by omega) q1 q2 (by simpa using q))
def tFor (wi:TI) (g:TG) (tb:TS):TS:=fun D σ H=>wi σ H fun J H1=>∃ W:Nat->Nat->St->Hp->Prop,(∃ m,W 0 m σ H1)/\∀ i m σ H,W i m σ H ->
 (J.stop i H/\D.nx σ H)\/(J.go i H/\∃ N:St->Hp->Prop,(∀ σ' H',N σ' H'->∃ m',m'<m/\W (i+1) m' σ' H')/\∀ x H',J.yld i H x H'->g x σ H' fun σ2 H2=>tb { D with nx:=N,ct:=N,bk:=D.nx } σ2 H2)
def pinsAt (fp:List Addr) (h:Heap):List (Addr × Obj):=fp.filterMap fun b=>(h.get? b).map fun o=>(b,o)
theorem mem_pinsAt {fp:List Addr} {h:Heap} {b:Addr} {o:Obj} (hb:b∈fp) (e:h.get? b=some o):(b,o)∈pinsAt fp h:=List.mem_filterMap.mpr ⟨b,hb,by rw [e]; rfl⟩
theorem of_pinsAt {fp:List Addr} {h:Heap} {p:Addr × Obj} (hp:p∈pinsAt fp h):p.1∈fp/\h.get? p.1=some p.2:=by
 obtain ⟨b,hb,e⟩:=List.mem_filterMap.mp hp
 cases q:h.get? b with
 | none=>rw [q] at e; cases e
 | some o =>
  rw [q] at e
  have e':(b,o)=p:=Option.some.inj e
  subst e'
  exact ⟨hb,q⟩
theorem Zs.pinned {pins:List (Addr × Obj)} {σ:St} {H:Hp} {s:Shared} {fp:List Addr} (I:Zs X pins σ H s) (hf:∀ b∈fp,FpOk X pins H b) (ho:∀ b∈fp,∃ o,s.heap.get? b=some o/\∀ v,o.data≠.cell v):Zs X (pins++pinsAt fp s.heap) σ H s :=
 I.pins_of fun p hp=>(List.mem_append.mp hp).elim (fun z=>I.pin p (List.mem_append_right _ z)) fun z=>by
  obtain ⟨hb,e⟩:=of_pinsAt z
  obtain ⟨f0,f1,f2,_⟩:=hf p.1 hb
  obtain ⟨o,e',d⟩:=ho p.1 hb
  rw [e] at e'; cases e'
  exact ⟨e,f0,f1,f2,d⟩
theorem Zs.unpinned {pins pl:List (Addr × Obj)} {σ:St} {H:Hp} {s:Shared} (I:Zs X (pins++pl) σ H s):Zs X pins σ H s:=I.pins_of fun p hp=>I.pin p (List.mem_append_right _ (List.mem_append_left _ hp))
theorem ps_for {iter:Expr} {body:List Stmt} {wi:TI} {g:TG} {tb:TS} {pos:Pos} (hp:PassesOwn (model X.prog X.w) X.A X.env X.xe) (hc:X.calm=true) (hi:PI X tg iter wi) (hg:PG X tg g) (hb:PSs X body tb)
  (hs:∀ x,foldedSetIterable iter X.env x=pure x:=by intro _; rfl):PS X (.For tg iter body [] pos) (tFor wi g tb):=by
 intro pins s σ H D I h
 refine wpAny_For (Y9 (hi pins s σ H _ I h) fun v s1 h1=>Y9 h1 fun itv s2 h2=>?_) hs
 obtain ⟨it,fp,tn,J,H2,e,I2,T,st2,f2,W,⟨m0,w0⟩,turn⟩:=h2
 subst e
 have stat:∀ {H':Hp},(∀ b∈fp,H' b=none)->∀ b∈fp,FpOk X pins H' b:=fun hn b hb=>⟨hn b hb,(f2 b hb).2⟩
 refine codeAny_forLoop_any (fun n s'=>∃ i σ' H',Zs X pins σ' H' s'/\tn i s'.heap/\(∀ b∈fp,H' b=none)/\W i n σ' H') ?_ m0 ⟨0,σ,H2,I2,st2,fun b hb=>(f2 b hb).1,w0⟩
 rintro n s3 ⟨i,σ3,H3,I3,st3,fr3,w3⟩
 rcases turn i n σ3 H3 w3 with ⟨stop,qn⟩ | ⟨go,N,hN,step⟩
 ·refine wpAny_passesOwn hp (Y9 (T.done X rfl rfl rfl hc i pins s3 σ3 H3 X.xe I3 (stat fr3) st3 stop) fun r s4 ⟨hr,I4⟩=>?_)
  subst hr
  exact wpAny_execs_nil ⟨σ3,H3,I4,qn⟩
 ·refine wpAny_passesOwn hp (Y9 (T.item X rfl rfl rfl hc i pins s3 σ3 H3 X.xe I3 (stat fr3) st3 go) fun r s4 ⟨u,hr,h4⟩=>?_)
  subst hr
  refine wpAny_passesOwn hp (Y9 h4 fun _ s5 ⟨x,H5,I5,r5,y5,st5,fr5⟩=>?_)
  have I5':=I5.pinned (stat fr5) (T.obj _ _ st5)
  refine wpAny_passesOwn hp (Y9 (hg _ s5 σ3 H5 x u _ I5' r5 (step x H5 y5)) fun _ s6 ⟨σ6,H6,I6,q6⟩=>?_)
  refine wpAny_passesOwn hp (Y9 (hb _ s6 σ6 H6 _ I6 q6) fun f s7 q7=>?_)
  have again:∀ {σ7:St} {H7:Hp},Zs X (pins++pinsAt fp s5.heap) σ7 H7 s7->N σ7 H7->∃ m,m<n/\∃ i σ' H',Zs X pins σ' H' s7/\tn i s7.heap/\(∀ b∈fp,H' b=none)/\W i m σ' H':=fun {σ7 H7} I7 n7=>by
   obtain ⟨m',hm,w7⟩:=hN σ7 H7 n7
   refine ⟨m',hm,i+1,σ7,H7,I7.unpinned,T.keep _ _ _ st5 fun b hb o e=>(I7.pin (b,o) (List.mem_append_right _ (List.mem_append_right _ (mem_pinsAt hb e)))).1,fun b hb=>?_,w7⟩
   obtain ⟨o,e,d⟩:=T.obj _ _ st5 b hb
   exact (I7.pin (b,o) (List.mem_append_right _ (List.mem_append_right _ (mem_pinsAt hb e)))).2.1
  cases f with
  | next=>obtain ⟨σ7,H7,I7,n7⟩:=q7; exact again I7 n7
  | cont=>obtain ⟨σ7,H7,I7,n7⟩:=q7; exact again I7 n7
  | brk=>obtain ⟨σ7,H7,I7,q7⟩:=q7; exact ⟨σ7,H7,I7.unpinned,q7⟩
  | ret v=>obtain ⟨x7,σ7,H7,I7,r7,q7⟩:=q7; exact ⟨x7,σ7,H7,I7.unpinned,r7,q7⟩
end
theorem for_list {K:PySem.W.Frag} {a:Addr} {xs:List V} {g:TG} {tb:TS} {D:Ends} {σ:St} {H:Hp} (Pv:Nat->St->Hp->Prop) (h0:Pv 0 σ H) (hl:∀ i σ H,i<=xs.length->Pv i σ H->Z0 K H a xs)
  (hs:∀ i x σ H,xs[i]?=some x->Pv i σ H->g x σ H fun σ2 H2=>tb { D with nx:=Pv (i+1),ct:=Pv (i+1),bk:=D.nx } σ2 H2) (hd:∀ σ H,Pv xs.length σ H->D.nx σ H) :
  ∃ W:Nat->Nat->St->Hp->Prop,(∃ m,W 0 m σ H)/\∀ i m σ H,W i m σ H ->
   ((Itl K a).stop i H/\D.nx σ H)\/((Itl K a).go i H/\∃ N:St->Hp->Prop,(∀ σ' H',N σ' H'->∃ m',m'<m/\W (i+1) m' σ' H')/\∀ x H',(Itl K a).yld i H x H'->g x σ H' fun σ2 H2=>tb { D with nx:=N,ct:=N,bk:=D.nx } σ2 H2):=by
 refine ⟨fun i m σ H=>m=xs.length - i/\i<=xs.length/\Pv i σ H,⟨xs.length,by simp,Nat.zero_le _,h0⟩, ?_⟩
 rintro i m σ H ⟨rfl,hi,p⟩
 have q:=hl i σ H hi p
 by_cases hlt:i<xs.length
 ·refine .inr ⟨⟨xs,xs[i],q,by simp [hlt]⟩,Pv (i+1),fun σ' H' p'=>⟨xs.length - (i+1),by omega,rfl,hlt,p'⟩,fun x H' y=>?_⟩
  obtain ⟨e,y⟩:=y
  subst e
  exact hs i x σ _ (y xs q) p
 ·have e:i=xs.length:=by omega
  subst e
  exact .inl ⟨⟨xs,q,Nat.le_refl _⟩,hd σ H p⟩
theorem for_tup {K:PySem.W.Frag} {a:Addr} {xs:List V} {g:TG} {tb:TS} {D:Ends} {σ:St} {H:Hp} (Pv:Nat->St->Hp->Prop) (h0:Pv 0 σ H) (hl:∀ i σ H,i<=xs.length->Pv i σ H->Z6 K H a xs)
  (hs:∀ i x σ H,xs[i]?=some x->Pv i σ H->g x σ H fun σ2 H2=>tb { D with nx:=Pv (i+1),ct:=Pv (i+1),bk:=D.nx } σ2 H2) (hd:∀ σ H,Pv xs.length σ H->D.nx σ H) :
  ∃ W:Nat->Nat->St->Hp->Prop,(∃ m,W 0 m σ H)/\∀ i m σ H,W i m σ H ->
   ((Itt K a).stop i H/\D.nx σ H)\/((Itt K a).go i H/\∃ N:St->Hp->Prop,(∀ σ' H',N σ' H'->∃ m',m'<m/\W (i+1) m' σ' H')/\∀ x H',(Itt K a).yld i H x H'->g x σ H' fun σ2 H2=>tb { D with nx:=N,ct:=N,bk:=D.nx } σ2 H2):=by
 refine ⟨fun i m σ H=>m=xs.length - i/\i<=xs.length/\Pv i σ H,⟨xs.length,by simp,Nat.zero_le _,h0⟩, ?_⟩
 rintro i m σ H ⟨rfl,hi,p⟩
 have q:=hl i σ H hi p
 by_cases hlt:i<xs.length
 ·refine .inr ⟨⟨xs,xs[i],q,by simp [hlt]⟩,Pv (i+1),fun σ' H' p'=>⟨xs.length - (i+1),by omega,rfl,hlt,p'⟩,fun x H' y=>?_⟩
  obtain ⟨e,y⟩:=y
  subst e
  exact hs i x σ _ (y xs q) p
 ·have e:i=xs.length:=by omega
  subst e
  exact .inl ⟨⟨xs,q,Nat.le_refl _⟩,hd σ H p⟩
theorem for_range {lo:Int} {n:Nat} {g:TG} {tb:TS} {D:Ends} {σ:St} {H:Hp} (Pv:Nat->St->Hp->Prop) (h0:Pv 0 σ H)
  (hs:∀ i σ H,i<n->Pv i σ H->g (.int (lo+i)) σ H fun σ2 H2=>tb { D with nx:=Pv (i+1),ct:=Pv (i+1),bk:=D.nx } σ2 H2) (hd:∀ σ H,Pv n σ H->D.nx σ H) :
  ∃ W:Nat->Nat->St->Hp->Prop,(∃ m,W 0 m σ H)/\∀ i m σ H,W i m σ H ->
   ((Itr lo n).stop i H/\D.nx σ H)\/((Itr lo n).go i H/\∃ N:St->Hp->Prop,(∀ σ' H',N σ' H'->∃ m',m'<m/\W (i+1) m' σ' H')/\∀ x H',(Itr lo n).yld i H x H'->g x σ H' fun σ2 H2=>tb { D with nx:=N,ct:=N,bk:=D.nx } σ2 H2):=by
 refine ⟨fun i m σ H=>m=n - i/\i<=n/\Pv i σ H,⟨n,by simp,Nat.zero_le _,h0⟩, ?_⟩
 rintro i m σ H ⟨rfl,hi,p⟩
 by_cases hlt:i<n
 ·refine .inr ⟨hlt,Pv (i+1),fun σ' H' p'=>⟨n - (i+1),by omega,rfl,hlt,p'⟩,fun x H' y=>?_⟩
  obtain ⟨e,y⟩:=y
  subst e y
  exact hs i σ _ hlt p
 ·have e:i=n:=by omega
  subst e
  exact .inl ⟨Nat.le_refl _,hd σ H p⟩
abbrev R2:=V->V->Hp->VK->Prop
def OpR (X:Cx) (f:Value->Value->Sem Value) (r:R2):Prop :=
 ∀ (pins:List (Addr × Obj)) (s:Shared) (σ:St) (H:Hp) (x y:V) (v u:Value) (Q:VK),Zs X pins σ H s->Z2 x v->Z2 y u->r x y H Q ->
  wpAny (model X.prog X.w) X.A (f v u) (EP X pins σ Q) X.xe s
def UnR (X:Cx) (f:Value->Sem Value) (r:V->Hp->VK->Prop):Prop :=
 ∀ (pins:List (Addr × Obj)) (s:Shared) (σ:St) (H:Hp) (x:V) (v:Value) (Q:VK),Zs X pins σ H s->Z2 x v->r x H Q ->
  wpAny (model X.prog X.w) X.A (f v) (EP X pins σ Q) X.xe s
def CallR (X:Cx) (f:Value) (r:List V->Hp->VK->Prop):Prop :=
 ∀ (pins:List (Addr × Obj)) (s:Shared) (σ:St) (H:Hp) (xs:List V) (us:List Value) (Q:VK),Zs X pins σ H s->Z9 xs us->r xs H Q ->
  wpAny (model X.prog X.w) X.A (call f us) (EP X pins σ Q) X.xe s
def TruR (X:Cx) (r:V->Hp->(Bool->Hp->Prop)->Prop):Prop :=
 ∀ (pins:List (Addr × Obj)) (s:Shared) (σ:St) (H:Hp) (x:V) (v:Value) (Q:Bool->Hp->Prop),Zs X pins σ H s->Z2 x v->r x H Q ->
  wpAny (model X.prog X.w) X.A (truthy v) (TP X pins σ Q) X.xe s
def tOp (r:R2) (ta tb:TE):TE:=fun σ H Q=>ta σ H fun x H1=>tb σ H1 fun y H2=>r x y H2 Q
def tUn (r:V->Hp->VK->Prop) (ta:TE):TE:=fun σ H Q=>ta σ H fun x H1=>r x H1 Q
def rI (C:Int->Int->Prop) (g:Int->Int->V):R2:=fun x y H Q=>∃ i j,x=.int i/\y=.int j/\C i j/\Q (g i j) H
def rI0 (g:Int->Int->V):R2:=fun x y H Q=>∃ i j,x=.int i/\y=.int j/\Q (g i j) H
def rU (g:Int->V):V->Hp->VK->Prop:=fun x H Q=>∃ i,x=.int i/\Q (g i) H
section
variable {X:Cx} {a b c:Expr} {ta tb tc:TE} {pos:Pos}
theorem binT (ha:PE X a ta) (hb:PE X b tb) {pins:List (Addr × Obj)} {s:Shared} {σ:St} {H:Hp} {R:V->V->Hp->Prop} (I:Zs X pins σ H s)
  (h:ta σ H fun x H1=>tb σ H1 fun y H2=>R x y H2) {Q:Value->Shared->Prop} {f:Value->Value->Sem Value}
  (hf:∀ v u s2 x y H2,Zs X pins σ H2 s2->Z2 x v->Z2 y u->R x y H2->wpAny (model X.prog X.w) X.A (f v u) Q X.xe s2) :
  wpAny (model X.prog X.w) X.A (eval a X.env) (fun v s₁=>wpAny (model X.prog X.w) X.A (eval b X.env) (fun u s₂=>wpAny (model X.prog X.w) X.A (f v u) Q X.xe s₂) X.xe s₁) X.xe s:=by
 refine Y9 (ha pins s σ H _ I h) fun v s1 ⟨x,H1,I1,r1,q1⟩=>?_
 refine Y9 (hb pins s1 σ H1 _ I1 q1) fun u s2 ⟨y,H2,I2,r2,q2⟩=>?_
 exact hf v u s2 x y H2 I2 r1 r2 q2
theorem Yx {op:Operator} {r:R2} (ho:OpR X (binaryOp op) r) (ha:PE X a ta) (hb:PE X b tb):PE X (.BinOp a op b pos) (tOp r ta tb):=by
 intro pins s σ H Q I h
 exact wpAny_BinOp (binT ha hb I h fun v u s2 x y H2 I2 rx ry q=>ho pins s2 σ H2 x y v u Q I2 rx ry q)
theorem pe_un {op:UnaryOp} {r:V->Hp->VK->Prop} (ho:UnR X (unaryOp op) r) (ha:PE X a ta):PE X (.UnaryOp op a pos) (tUn r ta):=by
 intro pins s σ H Q I h
 exact UnaryOp_ (Y9 (ha pins s σ H _ I h) fun v s1 ⟨x,H1,I1,r1,q1⟩=>ho pins s1 σ H1 x v Q I1 r1 q1)
theorem opI {f:Value->Value->Sem Value} {C:Int->Int->Prop} {g:Int->Int->Int}
  (rule:∀ (i j:Int) (t u:Tok) (s:Shared) (Q:Value->Shared->Prop) (E:Value->Shared->Prop),C i j->Q (.int (g i j) s.toks) { s with toks:=s.toks+1 }->wpAny (model X.prog X.w) X.A (f (.int i t) (.int j u)) Q E s) :
  OpR X f (rI C fun i j=>.int (g i j)):=by
 intro pins s σ H x y v u Q I rx ry h
 obtain ⟨i,j,rfl,rfl,hc,q⟩:=h
 obtain ⟨t,rfl⟩:=rx
 obtain ⟨t',rfl⟩:=ry
 exact rule i j t t' s _ _ hc ⟨.int (g i j),H,I.tok _,⟨_,rfl⟩,q⟩
theorem opI0 {f:Value->Value->Sem Value} {g:Int->Int->Int}
  (rule:∀ (i j:Int) (t u:Tok) (s:Shared) (Q:Value->Shared->Prop) (E:Value->Shared->Prop),Q (.int (g i j) s.toks) { s with toks:=s.toks+1 }->wpAny (model X.prog X.w) X.A (f (.int i t) (.int j u)) Q E s) :
  OpR X f (rI0 fun i j=>.int (g i j)):=by
 intro pins s σ H x y v u Q I rx ry h
 obtain ⟨i,j,rfl,rfl,q⟩:=h
 obtain ⟨t,rfl⟩:=rx
 obtain ⟨t',rfl⟩:=ry
 exact rule i j t t' s _ _ ⟨.int (g i j),H,I.tok _,⟨_,rfl⟩,q⟩
theorem opB0 {f:Value->Value->Sem Value} {g:Int->Int->Bool}
  (rule:∀ (i j:Int) (t u:Tok) (s:Shared) (Q:Value->Shared->Prop) (E:Value->Shared->Prop),Q (.bool (g i j)) s->wpAny (model X.prog X.w) X.A (f (.int i t) (.int j u)) Q E s) :
  OpR X f (rI0 fun i j=>.bl (g i j)):=by
 intro pins s σ H x y v u Q I rx ry h
 obtain ⟨i,j,rfl,rfl,q⟩:=h
 obtain ⟨t,rfl⟩:=rx
 obtain ⟨t',rfl⟩:=ry
 exact rule i j t t' s _ _ ⟨.bl (g i j),H,I,rfl,q⟩
def CDiv (i j:Int):Prop:=0<j/\j<1073741824
def CPow (i j:Int):Prop:=0<=j/\j<=1000000/\i.natAbs<2 ^ 64
def CMul (i j:Int):Prop:=(-(2 ^ 64)<i/\i<2 ^ 64)\/(-(2 ^ 64)<j/\j<2 ^ 64)
theorem CMul.ok {i j:Int} (h:CMul i j):IntMulOk i j:=by
 rcases h with ⟨h1,h2⟩ | ⟨h1,h2⟩
 ·exact .of_left (intBits_le_64 h1 h2)
 ·exact .of_right (intBits_le_64 h1 h2)
theorem op_add:OpR X (binaryOp .Add) (rI0 fun i j=>.int (i+j)):=opI0 fun _ _ _ _ _ _ _ q=>add_int q
theorem op_sub:OpR X (binaryOp .Sub) (rI0 fun i j=>.int (i - j)):=opI0 fun _ _ _ _ _ _ _ q=>sub_int q
theorem op_mul:OpR X (binaryOp .Mult) (rI CMul fun i j=>.int (i * j)):=opI fun _ _ _ _ _ _ _ hc q=>mul_int q hc.ok
theorem op_fdiv:OpR X (binaryOp .FloorDiv) (rI CDiv fun i j=>.int (i / j)):=opI fun i j _ _ _ _ _ hc q=>by
 have h1:(0:Int)<j:=hc.1
 have h2:j<1073741824:=hc.2
 exact floordiv_int (by omega) (by rw [Int.fdiv_eq_ediv_of_nonneg i (by omega)]; exact q) (.inl (PyProof.noPylong_small (by omega)))
theorem op_mod:OpR X (binaryOp .Mod) (rI (fun _ j=>0<j) fun i j=>.int (i % j)):=opI fun i j _ _ _ _ _ hc q=>by
 have h1:(0:Int)<j:=hc
 exact mod_int' (by omega) (by rw [Int.fmod_eq_emod_of_nonneg i (by omega)]; exact q)
theorem op_pow:OpR X (binaryOp .Pow) (rI CPow fun i j=>.int (i ^ j.toNat)):=opI fun _ _ _ _ _ _ _ hc q=>pow_int_small hc.1 hc.2.1 hc.2.2 q
theorem unI {f:Value->Sem Value} {g:Int->Int}
  (rule:∀ (i:Int) (t:Tok) (s:Shared) (Q:Value->Shared->Prop) (E:Value->Shared->Prop),Q (.int (g i) s.toks) { s with toks:=s.toks+1 }->wpAny (model X.prog X.w) X.A (f (.int i t)) Q E s) :
  UnR X f (rU fun i=>.int (g i)):=by
 intro pins s σ H x v Q I rx h
 obtain ⟨i,rfl,q⟩:=h
 obtain ⟨t,rfl⟩:=rx
 exact rule i t s _ _ ⟨.int (g i),H,I.tok _,⟨_,rfl⟩,q⟩
theorem un_neg:UnR X (unaryOp .USub) (rU fun i=>.int (-i)):=unI fun _ _ _ _ _ q=>neg_int q
end
def scal:V->V->Bool
 | .non,.non=>true | .non,.int _=>true | .int _,.non=>true | .non,.bl _=>true | .bl _,.non=>true | .non,.str _=>true | .str _,.non=>true
 | .int _,.int _=>true | .bl _,.bl _=>true | .str _,.str _=>true | .byt _,.byt _=>true
 | .int _,.str _=>true | .str _,.int _=>true | .bl _,.str _=>true | .str _,.bl _=>true
 | _,_=>false
def rEq:R2:=fun x y H Q=>scal x y=true/\Q (.bl (decide (x=y))) H
def rNe:R2:=fun x y H Q=>scal x y=true/\Q (.bl (!decide (x=y))) H
theorem dec_int {i j:Int}:decide (V.int i=V.int j)=(i == j):=by
 rw [Bool.eq_iff_iff]
 simp
theorem dec_bl {i j:Bool}:decide (V.bl i=V.bl j)=(i == j):=by
 rw [Bool.eq_iff_iff]
 simp
theorem dec_str {i j:Str}:decide (V.str i=V.str j)=(i == j):=by
 rw [Bool.eq_iff_iff]
 simp
theorem dec_byt {i j:Array UInt8}:decide (V.byt i=V.byt j)=(i.toList == j.toList):=by
 rw [Bool.eq_iff_iff]
 cases i
 cases j
 simp
section
variable {X:Cx} {a b c:Expr} {ta tb tc:TE} {pos:Pos}
theorem Yg {pins:List (Addr × Obj)} {σ:St} {H:Hp} {s:Shared} {Q:VK} {k k':Bool} (I:Zs X pins σ H s) (q:Q (.bl k) H) (e:k=k'):EP X pins σ Q (.bool k') s:=by
 subst e
 exact ⟨.bl k,H,I,rfl,q⟩
theorem Yf:OpR X (compareOp .Eq) rEq:=by
 intro pins s σ H x y v u Q I rx ry h
 obtain ⟨hs,q⟩:=h
 cases x with
 | non =>
  cases rx
  cases y with
  | non=>cases ry; exact PySem.EqNone.eq_none_none (Yg I q (by simp))
  | bl j=>cases ry; exact PySem.EqNone.eq_none_bool (Yg I q (by simp))
  | int j=>obtain ⟨t',rfl⟩:=ry; exact PySem.EqNone.eq_none_int (Yg I q (by simp))
  | str j=>obtain ⟨t',rfl⟩:=ry; exact PySem.EqNone.eq_none_str (Yg I q (by simp))
  | _=>exact absurd (show false=true from hs) Bool.false_ne_true
 | bl i =>
  cases rx
  cases y with
  | non=>cases ry; exact PySem.EqNone.eq_bool_none (Yg I q (by simp))
  | bl j=>cases ry; exact eq_bool (Yg I q dec_bl)
  | str j=>obtain ⟨t',rfl⟩:=ry; exact PySem.EqMixed.eq_bool_str (Yg I q (by simp))
  | _=>exact absurd (show false=true from hs) Bool.false_ne_true
 | int i =>
  obtain ⟨t,rfl⟩:=rx
  cases y with
  | non=>cases ry; exact PySem.EqNone.eq_int_none (Yg I q (by simp))
  | int j=>obtain ⟨t',rfl⟩:=ry; exact eq_int (Yg I q dec_int)
  | str j=>obtain ⟨t',rfl⟩:=ry; exact PySem.EqMixed.eq_int_str (Yg I q (by simp))
  | _=>exact absurd (show false=true from hs) Bool.false_ne_true
 | str i =>
  obtain ⟨t,rfl⟩:=rx
  cases y with
  | non=>cases ry; exact PySem.EqNone.eq_str_none (Yg I q (by simp))
  | bl j=>cases ry; exact PySem.EqMixed.eq_str_bool (Yg I q (by simp))
  | int j=>obtain ⟨t',rfl⟩:=ry; exact PySem.EqMixed.eq_str_int (Yg I q (by simp))
  | str j=>obtain ⟨t',rfl⟩:=ry; exact eq_str (Yg I q dec_str)
  | _=>exact absurd (show false=true from hs) Bool.false_ne_true
 | byt i =>
  obtain ⟨t,rfl⟩:=rx
  cases y with
  | byt j=>obtain ⟨t',rfl⟩:=ry; exact W.eq_bytes (Yg I q dec_byt)
  | _=>exact absurd (show false=true from hs) Bool.false_ne_true
 | _=>cases y <;> exact absurd (show false=true from hs) Bool.false_ne_true
theorem op_ne:OpR X (compareOp .NotEq) rNe:=by
 intro pins s σ H x y v u Q I rx ry h
 obtain ⟨hs,q⟩:=h
 cases x with
 | non =>
  cases rx
  cases y with
  | non=>cases ry; exact PySem.EqNone.ne_none_none (Yg I q (by simp))
  | bl j=>cases ry; exact PySem.EqNone.ne_none_bool (Yg I q (by simp))
  | int j=>obtain ⟨t',rfl⟩:=ry; exact PySem.EqNone.ne_none_int (Yg I q (by simp))
  | str j=>obtain ⟨t',rfl⟩:=ry; exact PySem.EqNone.ne_none_str (Yg I q (by simp))
  | _=>exact absurd (show false=true from hs) Bool.false_ne_true
 | bl i =>
  cases rx
  cases y with
  | non=>cases ry; exact PySem.EqNone.ne_bool_none (Yg I q (by simp))
  | bl j=>cases ry; exact ne_bool (Yg I q (congrArg not dec_bl))
  | str j=>obtain ⟨t',rfl⟩:=ry; exact PySem.EqMixed.ne_bool_str (Yg I q (by simp))
  | _=>exact absurd (show false=true from hs) Bool.false_ne_true
 | int i =>
  obtain ⟨t,rfl⟩:=rx
  cases y with
  | non=>cases ry; exact PySem.EqNone.ne_int_none (Yg I q (by simp))
  | int j=>obtain ⟨t',rfl⟩:=ry; exact ne_int (Yg I q (congrArg not dec_int))
  | str j=>obtain ⟨t',rfl⟩:=ry; exact PySem.EqMixed.ne_int_str (Yg I q (by simp))
  | _=>exact absurd (show false=true from hs) Bool.false_ne_true
 | str i =>
  obtain ⟨t,rfl⟩:=rx
  cases y with
  | non=>cases ry; exact PySem.EqNone.ne_str_none (Yg I q (by simp))
  | bl j=>cases ry; exact PySem.EqMixed.ne_str_bool (Yg I q (by simp))
  | int j=>obtain ⟨t',rfl⟩:=ry; exact PySem.EqMixed.ne_str_int (Yg I q (by simp))
  | str j=>obtain ⟨t',rfl⟩:=ry; exact ne_str (Yg I q (congrArg not dec_str))
  | _=>exact absurd (show false=true from hs) Bool.false_ne_true
 | byt i =>
  obtain ⟨t,rfl⟩:=rx
  cases y with
  | byt j=>obtain ⟨t',rfl⟩:=ry; exact W.ne_bytes (Yg I q (congrArg not dec_byt))
  | _=>exact absurd (show false=true from hs) Bool.false_ne_true
 | _=>cases y <;> exact absurd (show false=true from hs) Bool.false_ne_true
theorem op_lt:OpR X (compareOp .Lt) (rI0 fun i j=>.bl (decide (i<j))):=opB0 fun _ _ _ _ _ _ _ q=>lt_int q
theorem op_gt:OpR X (compareOp .Gt) (rI0 fun i j=>.bl (decide (j<i))):=opB0 fun _ _ _ _ _ _ _ q=>gt_int q
theorem Zh (b:Expr) {op:CmpOp} (h:op≠.In:=by decide) (h2:op≠.NotIn:=by decide):behindInMarks op b=false:=by
 have e1:(op == CmpOp.In)=false:=by cases op <;> first | rfl | exact absurd rfl h
 have e2:(op == CmpOp.NotIn)=false:=by cases op <;> first | rfl | exact absurd rfl h2
 cases b <;> simp [behindInMarks,e1,e2]
theorem pe_cmpR {op:CmpOp} {r:R2} (ho:OpR X (compareOp op) r) (ha:PE X a ta) (hb:PE X b tb) (hm:behindInMarks op b=false):PE X (.Compare a [op] [b] pos) (tOp r ta tb):=by
 intro pins s σ H Q I h
 exact wpAny_Compare1 (binT ha hb I h fun v u s2 x y H2 I2 rx ry q=>ho pins s2 σ H2 x y v u Q I2 rx ry q) hm
def tTest (t:TE):TT:=fun σ H Q=>t σ H fun x H'=>∃ k,x=.bl k/\Q k H'
theorem Zl {op:CmpOp} {r:R2} (ho:OpR X (compareOp op) r) (ha:PE X a ta) (hb:PE X b tb) (hm:behindInMarks op b=false):PT X (.Compare a [op] [b] pos) (tTest (tOp r ta tb)):=by
 intro pins s σ H Q I h
 refine wpAny_isTrue_Compare1 (Y9 (ha pins s σ H _ I h) fun v s1 ⟨x,H1,I1,r1,q1⟩=>Y9 (hb pins s1 σ H1 _ I1 q1) fun u s2 ⟨y,H2,I2,r2,q2⟩ =>
  Y9 (ho pins s2 σ H2 x y v u _ I2 r1 r2 q2) fun c s3 ⟨z,H3,I3,r3,k,e,q3⟩=>?_) hm
 subst e
 cases r3
 exact wpAny_truthy_bool ⟨H3,I3,q3⟩
def TruV (K:W.Frag) (x:V) (H:Hp) (k:Bool):Prop :=
 match x with
 | .non=>k=false
 | .bl b=>k=b
 | .int i=>k=(i != 0)
 | .str y=>y.length<=sizeLine/\k=((y.length:Int) != 0)
 | .byt y=>y.size<=sizeLine/\k=((y.size:Int) != 0)
 | .ref p=>(∃ xs,Z0 K H p xs/\k=!xs.isEmpty)\/(∃ xs,Z6 K H p xs/\k=!xs.isEmpty)\/∃ kvs,H p=some (.dK kvs)/\k=!kvs.isEmpty
 | _=>False
theorem isEmpty_kv {κ:Type} {kvs:List (κ × V)} {vs:List (κ × Value)} (r:KV kvs vs):(!vs.isEmpty)=!kvs.isEmpty:=by
 cases r <;> rfl
theorem isEmpty_of {xs:List V} {its:List Value} (r:Z9 xs its):(!its.toArray.isEmpty)=!xs.isEmpty:=by
 cases r <;> simp
theorem line63:(sizeLine:Nat)<2 ^ 63:=by rw [sizeLine_eq]; decide
theorem tru_ok:TruR X (fun x H Q=>∃ k,TruV X.K x H k/\Q k H):=by
 intro pins s σ H x v Q I rx h
 obtain ⟨k,e,q⟩:=h
 have hl:=line63
 have hs:sizeLine=16777216:=sizeLine_eq
 cases x with
 | non =>
  cases rx
  have e':k=false:=e
  subst e'
  exact truthy_none ⟨H,I,q⟩
 | bl b =>
  cases rx
  have e':k=b:=e
  subst e'
  exact wpAny_truthy_bool ⟨H,I,q⟩
 | int i =>
  obtain ⟨t,rfl⟩:=rx
  have e':k=(i != 0):=e
  subst e'
  exact PySem.P.truthy_int ⟨H,I,q⟩
 | str y =>
  obtain ⟨t,rfl⟩:=rx
  obtain ⟨hy,e'⟩:y.length<=sizeLine/\k=((y.length:Int) != 0):=e
  subst e'
  exact PySem.P.truthy_str (by omega) ⟨H,I.tok _,q⟩
 | byt y =>
  obtain ⟨t,rfl⟩:=rx
  obtain ⟨hy,e'⟩:y.size<=sizeLine/\k=((y.size:Int) != 0):=e
  subst e'
  exact W.truthy_bytes (by omega) ⟨H,I.tok _,q⟩
 | ref p =>
  cases rx
  have e':(∃ xs,Z0 X.K H p xs/\k=!xs.isEmpty)\/(∃ xs,Z6 X.K H p xs/\k=!xs.isEmpty)\/∃ kvs,H p=some (.dK kvs)/\k=!kvs.isEmpty:=e
  rcases e' with ⟨xs,hx,e'⟩ | ⟨xs,hx,e'⟩ | ⟨kvs,hx,e'⟩
  ·subst e'
   obtain ⟨its,r,pl,hz⟩:=I.list hx
   have hlen:=r.length
   exact wpAny_truthy_list pl.isList (by simp only [List.size_toArray]; omega) ⟨H,I.tok _,by rw [isEmpty_of r]; exact q⟩
  ·subst e'
   obtain ⟨its,r,pl,hz⟩:=I.tuple hx
   have hlen:=r.length
   exact truthy_tuple pl (by simp only [List.size_toArray]; omega) ⟨H,I.tok _,by rw [isEmpty_of r]; exact q⟩
  ·subst e'
   obtain ⟨hz,hS,vs,r,m⟩:kvs.length<=sizeLine/\(p == sysModules)=false/\∃ vs,KV kvs vs/\s.heap.DictOf (Z8 X.prog X.w) p vs:=I.hok p _ hx
   have hlen:kvs.length=vs.length:=Paired.length r
   exact wpAny_truthy_dict hS m (by omega) ⟨H,I.tok _,by rw [isEmpty_kv r]; exact q⟩
 | _=>exact (show False from e).elim
theorem pt_truth (ha:PE X a ta) (he:∀ whole,isTrue a X.env whole=(do let v <-whole; standAt a.pos; holding [v] (truthy v))) :
  PT X a (fun σ H Q=>ta σ H fun x H'=>∃ k,TruV X.K x H' k/\Q k H'):=by
 intro pins s σ H Q I h
 exact isTrue_plain (Y9 (ha pins s σ H _ I h) fun v s1 ⟨x,H1,I1,r1,q1⟩=>tru_ok pins s1 σ H1 x v Q I1 r1 q1) (he _)
theorem vals1 {x:V} {us:List Value} (r:Z9 [x] us):∃ u,us=[u]/\Z2 x u:=by
 cases r with
 | cons r1 r2=>cases r2; exact ⟨_,rfl,r1⟩
theorem vals2 {x y:V} {us:List Value} (r:Z9 [x,y] us):∃ u w',us=[u,w']/\Z2 x u/\Z2 y w':=by
 cases r with
 | cons r1 r2 =>
  cases r2 with
  | cons r3 r4=>cases r4; exact ⟨_,_,rfl,r1,r3⟩
theorem call_min2 (hc:X.calm=true):CallR X (.builtin "min") (fun xs H Q=>∃ i j,xs=[.int i,.int j]/\Q (.int (if j<i then j else i)) H):=by
 intro pins s σ H xs us Q I r h
 obtain ⟨i,j,rfl,q⟩:=h
 obtain ⟨u,w',rfl,⟨t,rfl⟩,⟨t',rfl⟩⟩:=vals2 r
 refine min_two_ints (I.ok.hd hc) fun h' tk k=>⟨_,H,I.kept k, ?_,q⟩
 by_cases hj:j<i
 ·rw [if_pos hj,if_pos hj]; exact ⟨_,rfl⟩
 ·rw [if_neg hj,if_neg hj]; exact ⟨_,rfl⟩
theorem call_int1:CallR X (.type "int") (fun xs H Q=>(∃ i,xs=[.int i]/\Q (.int i) H)\/∃ k,xs=[.bl k]/\Q (.int (if k then 1 else 0)) H):=by
 intro pins s σ H xs us Q I r h
 rcases h with ⟨i,rfl,q⟩ | ⟨k,rfl,q⟩
 ·obtain ⟨u,rfl,t,rfl⟩:=vals1 r
  exact call_int_int ⟨.int i,H,I,⟨_,rfl⟩,q⟩
 ·obtain ⟨u,rfl,r1⟩:=vals1 r
  cases r1
  exact call_int_bool ⟨.int (if k then 1 else 0),H,I.tok _,⟨_,rfl⟩,q⟩
end
structure ObjM (h:Heap) (x dx C:Addr) (mA:Str->Option Value):Prop where
 obj:h.get? x=some (W.instObj C dx)
 ns:h.Ns1 dx mA
 ne:dx≠x
section
variable {prog:Program} {w:World} {A:Around} {E:Value->Shared->Prop} {s:Shared} {K:W.Frag} {x dx C f:Addr} {mA:Str->Option Value} {name:Str} {v:Value}
end
theorem RelO.some_of {v:V} {o:Option Value} (r:RelO (some v) o):∃ u,o=some u/\Z2 v u:=by
 cases o with
 | none=>exact (show False from r).elim
 | some u=>exact ⟨u,rfl,r⟩
section
variable {P:Program} {w:World} {H H':Hp} {h h':Heap} {a C dx:Addr} {fs fs':List (Str × V)}
end
structure Cls (K:W.Frag) (C:Addr):Prop where
 pg:W.plainGet K C Str.empty=true
 hd:W.hasDictIn K C=true
 po:W.plainOver K C=true
 sa:W.findIn K (.ref C) "__setattr__" = some (some (.builtin "object.__setattr__"))
theorem Cls.get {K:W.Frag} {C:Addr} (c:Cls K C) (f:Str):W.plainGet K C f=true:=c.pg
def NoAttr (K:W.Frag) (C:Addr) (f:Str):Prop:=W.findIn K (.ref C) f=some none
structure Con (K:W.Frag) (C:Addr) (f:Str) (v:V) (u:Value):Prop where
 at_:W.findIn K (.ref C) f=some (some u)
 rel:Z2 v u
 get:W.specialIn K u "__get__" = some none
 cp:W.copiedNames.contains f=false
structure Meth (K:W.Frag) (C:Addr) (m:Str) (f:Addr):Prop where
 at_:W.findIn K (.ref C) m=some (some (.ref f))
 fn:W.isFn K (.ref f)=true
 kp:W.keepIn K (.ref f)=true
section
variable {X:Cx} {pins:List (Addr × Obj)} {σ:St} {H:Hp} {s:Shared} {a C dx:Addr} {fs:List (Str × V)} {f:Str} {v:V} {A:Around} {E:Value->Shared->Prop}
end
section
variable {X:Cx} {o e value:Expr} {f:Str} {pos pos' tpos:Pos} {ta tv:TE}
end
section
variable {X:Cx} {pins:List (Addr × Obj)} {σ:St} {H:Hp} {s:Shared} {A:Around} {E:Value->Shared->Prop} {Q:Value->Shared->Prop} {c:Value} {b:Bool}
inductive TyOf (K:W.Frag) (H:Hp):V->Value->Prop where
 | non:TyOf K H .non (.type "NoneType")
 | bl (x:Bool):TyOf K H (.bl x) (.type "bool")
 | int (i:Int):TyOf K H (.int i) (.type "int")
 | str (x:Str):TyOf K H (.str x) (.type "str")
 | flt (x:UInt64):TyOf K H (.flt x) (.type "float")
 | lst {a:Addr} {xs:List V} (e:H a=some (.lst xs)):TyOf K H (.ref a) (.type "list")
 | frz {a:Addr} {o:Obj} {xs:List V} (e:H a=some (.frz o (.lst xs))):TyOf K H (.ref a) (.type "list")
 | tup {a:Addr} {xs:List V} (e:H a=some (.tup xs)):TyOf K H (.ref a) (.type "tuple")
 | dK {a:Addr} {kvs:List (Yt × V)} (e:H a=some (.dK kvs)):TyOf K H (.ref a) (.type "dict")
 | dT {a:Addr} {kvs:List (List Yt × V)} (e:H a=some (.dT kvs)):TyOf K H (.ref a) (.type "dict")
 | ins {a C dx:Addr} {fs:List (Str × V)} (e:H a=some (.ins C dx fs)) (cl:Cls K C) (ha:W.findIn K (.ref C) "__class__" = some (some (.builtin "object.__class__")))
   (hn:W.specialIn K (.builtin "object.__class__") "__get__" = some (some (.builtin "getset_descriptor.__get__"))) (htk:W.takesIn K (.builtin "object.__class__")=some true)
   (hm:W.mroIn K C (.type "object")=some true):TyOf K H (.ref a) (.ref C)
end
structure Vr (k:Nat) (A:Around):Prop where
 hd:A.handled=none
 dp:A.depth+3 * k+5<recursionLimit
 un:A.units+16 * k+200<cLine
 gd:A.guards=some []
theorem Vr.mono {j k:Nat} {A:Around} (r:Vr k A) (h:j<=k):Vr j A:=⟨r.hd,by have:=r.dp; omega,by have:=r.un; omega,r.gd⟩
theorem Vr.deeper {k:Nat} {A:Around} (r:Vr (k+1) A) (env:Env):Vr k (A.deeper env) :=
 ⟨r.hd,by have:=r.dp; show A.depth+1+3 * k+5<_; omega,by have:=r.un; show A.units+3+16 * k+200<_; omega,r.gd⟩
theorem Vr.in1 {k:Nat} {A:Around} (r:Vr (k+1) A):Vr k A.in1 :=
 ⟨r.hd,by have:=r.dp; show A.depth+3 * k+5<_; omega,by have:=r.un; show A.units+1+16 * k+200<_; omega,r.gd⟩
theorem make_depth {A:Around} {C:Addr} {us:List Value} {kw:List (Str × Value)}:(A.under (.builtin "type.__call__" ⟨.ref C::us,kw⟩)).depth=A.depth+1:=by
 first | rfl | simp [Around.under,Code.weight,Code.isCreation,Code.isGuard,Code.isCaller,Code.frames,Code.isFrame,guardIds]
theorem make_units {A:Around} {C:Addr} {us:List Value} {kw:List (Str × Value)}:(A.under (.builtin "type.__call__" ⟨.ref C::us,kw⟩)).units=A.units+1:=by
 first | rfl | simp [Around.under,Code.cUnits,Code.frames,Code.isFrame]
theorem Vr.make {k:Nat} {A:Around} (r:Vr (k+1) A) (C:Addr) (us:List Value) (kw:List (Str × Value)):Vr k (A.under (.builtin "type.__call__" ⟨.ref C::us,kw⟩)) :=
 ⟨r.hd,by have:=r.dp; rw [make_depth]; omega,by have:=r.un; rw [make_units]; omega,by first | exact r.gd | simp [Around.under,Code.guards,Code.isGuard,guardIds,pushGuards,r.gd]⟩
theorem Vr.depth {k:Nat} {A:Around} (r:Vr k A):A.depth<recursionLimit:=by have:=r.dp; omega
theorem Vr.units {k:Nat} {A:Around} (r:Vr k A):A.units+64<cLine:=by have:=r.un; omega
def tNil:TA:=fun _ H Q=>Q [] H
def tCons (ta:TE) (tr:TA):TA:=fun σ H Q=>ta σ H fun x H1=>tr σ H1 fun xs H2=>Q (x::xs) H2
section
variable {X:Cx} {e:Expr} {es:List Expr} {te:TE} {t:TA} {pos:Pos}
theorem Zx:PA X [] tNil:=fun _ _ _ _ H Q I h=>Calls.spliced_nil ⟨[],H,I,.nil,h⟩
theorem pa_cons (ha:PE X e te) (hr:PA X es t) (hs:starEach (e::es) X.env=(false,eval e X.env)::starEach es X.env:=by rfl):PA X (e::es) (tCons te t):=by
 intro pos pins s σ H Q I h
 rw [hs]
 show wpAny _ _ (spliced ((false,eval e X.env)::backTo pos (starEach es X.env))) _ _ s
 refine Calls.spliced_cons (Y9 (ha pins s σ H _ I h) fun u s1 ⟨x,H1,I1,r1,q1⟩=>?_)
 exact Y9 (hr pos pins s1 σ H1 _ I1 q1) fun us s2 ⟨xs,H2,I2,r2,q2⟩=>⟨x::xs,H2,I2,.cons r1 r2,q2⟩
theorem Zg (ha:PE X e te) (hr:PA X es t) (hs:starEach (e::es) X.env=(false,eval e X.env)::starEach es X.env):PA X (e::es) (tCons te t):=pa_cons ha hr hs
def tTup (t:TA):TE:=fun σ H Q=>t σ H fun xs H1=>xs.length<=sizeLine/\∀ p,H1 p=none->Q (.ref p) (Z3 H1 p (.tup xs))
def tLst (t:TA):TE:=fun σ H Q=>t σ H fun xs H1=>xs.length<=sizeLine/\∀ p,H1 p=none->Q (.ref p) (Z3 H1 p (.lst xs))
theorem Zu {x1} (h:PA X es t):PE X (.Tuple es x1 pos) (tTup t):=by
 intro pins s σ H Q I hq
 refine wpAny_Tuple_spliced (Y9 (h pos pins s σ H _ I hq) fun us s1 ⟨xs,H1,I1,r,z,q⟩=>⟨by rw [<-r.length]; exact z, ?_⟩)
 have hf:H1 s1.heap.objs.size=none:=I1.hok.fresh (Nat.le_refl _)
 refine ⟨.ref s1.heap.objs.size,Z3 H1 s1.heap.objs.size (.tup xs),I1.laid (t':=s1.toks) (fun b u e=>Heap.get?_push_of_some _ e) (Nat.le_refl _) ?_,rfl,q _ hf⟩
 exact ⟨z,us,r,⟨_,Heap.get?_push_size _ rfl,rfl,⟨_,rfl⟩,rfl⟩⟩
theorem Z7 (h:PA X es t):PE X (.List es pos) (tLst t):=by
 intro pins s σ H Q I hq
 refine wpAny_List_spliced (Y9 (h pos pins s σ H _ I hq) fun us s1 ⟨xs,H1,I1,r,z,q⟩=>⟨by rw [<-r.length]; exact z, ?_⟩)
 have hf:H1 s1.heap.objs.size=none:=I1.hok.fresh (Nat.le_refl _)
 refine ⟨.ref s1.heap.objs.size,Z3 H1 s1.heap.objs.size (.lst xs),I1.laid (t':=s1.toks) (fun b u e=>Heap.get?_push_of_some _ e) (Nat.le_refl _) ?_,rfl,q _ hf⟩
 exact ⟨z,us,0,r,Heap.get?_push_size _ rfl⟩
end
abbrev Sp:=List V->Hp->VK->XK->Prop
abbrev CXT:=List Env->Hp->Shared->XK->Value->Shared->Prop
structure Env0 (P:Program) (w:World) (K:W.Frag) (mg:Str->Option Value) (base:Heap) (A:Around) (outer:List Env) (s:Shared) (H:Hp):Prop where
 frames:A.frames=some outer
 mod:Mod K mg base
 bs:∀ b o,base.get? b=some o->s.heap.get? b=some o/\H b=none
 bsz:base.objs.size<=s.heap.objs.size
 funs:s.heap.FunFrames base outer
 frf:∀ b∈frs outer,H b=none
 hok:HOk P w H s.heap
 bare:AllBare s.gens
def CE (outer:List Env) (P:Program) (w:World) (H:Hp) (s:Shared) (Q:VK) (u:Value) (s':Shared):Prop :=
 ∃ v H',s'.os=s.os/\AllBare s'.gens/\Un (frs outer) [] H H' s.heap s'.heap/\HOk P w H' s'.heap/\Z2 v u/\Q v H'
def CR (CX:CXT) (outer:List Env) (P:Program) (w:World) (H:Hp) (s:Shared) (Q:VK) (E:XK) (r:Result) (s':Shared):Prop :=
 match r with
 | .ok (.ret u)=>CE outer P w H s Q u s'
 | .ok _=>False
 | .error e=>CX outer H s E e s'
structure Y4 (P:Program) (w:World) (K:W.Frag) (mg:Str->Option Value) (base:Heap) (CX:CXT) (k:Nat) (f:Addr) (fd:FuncData) (ps:List Str) (sp:Sp):Prop where
 len:∀ vs H Q E,sp vs H Q E->vs.length=ps.length
 run:∀ (A:Around) (outer:List Env) (s:Shared) (H:Hp) (args:Args) (us:List Value) (vs:List V) (Q:VK) (E:XK),Vr k A->Env0 P w K mg base A outer s H->BindsTo s fd args (ps.zip us)->Z9 vs us->sp vs H Q E ->
  codeAny (model P w) A (.call (.ref f) args) (CR CX outer P w H s Q E) s
theorem Y4.mono {P:Program} {w:World} {K:W.Frag} {mg:Str->Option Value} {base:Heap} {CX:CXT} {j k:Nat} {f:Addr} {fd:FuncData} {ps:List Str} {sp:Sp} (F:Y4 P w K mg base CX j f fd ps sp) (h:j<=k) :
  Y4 P w K mg base CX k f fd ps sp:=⟨F.len,fun A outer s H args us vs Q E hr=>F.run A outer s H args us vs Q E (hr.mono h)⟩
theorem Y4.imp {P:Program} {w:World} {K:W.Frag} {mg:Str->Option Value} {base:Heap} {CX:CXT} {k:Nat} {f:Addr} {fd:FuncData} {ps:List Str} {sp sp':Sp} (F:Y4 P w K mg base CX k f fd ps sp)
  (h:∀ vs H Q E,sp' vs H Q E->sp vs H Q E):Y4 P w K mg base CX k f fd ps sp' :=
 ⟨fun vs H Q E q=>F.len vs H Q E (h _ _ _ _ q),fun A outer s H args us vs Q E hr he hb hv hs=>F.run A outer s H args us vs Q E hr he hb hv (h _ _ _ _ hs)⟩
theorem Env0.make {P:Program} {w:World} {K:W.Frag} {mg:Str->Option Value} {base:Heap} {A:Around} {outer:List Env} {s:Shared} {H:Hp} (e:Env0 P w K mg base A outer s H) (C:Addr) (us:List Value) (kw:List (Str × Value)) :
  Env0 P w K mg base (A.under (.builtin "type.__call__" ⟨.ref C::us,kw⟩)) outer s H:=⟨by first | exact e.frames | (simpa [Around.under,Code.envs,Code.isFrame,pushEnvs] using e.frames),e.mod,e.bs,e.bsz,e.funs,e.frf,e.hok,e.bare⟩
theorem Env0.in1 {P:Program} {w:World} {K:W.Frag} {mg:Str->Option Value} {base:Heap} {A:Around} {outer:List Env} {s:Shared} {H:Hp} (e:Env0 P w K mg base A outer s H) :
  Env0 P w K mg base A.in1 outer s H:=⟨e.frames,e.mod,e.bs,e.bsz,e.funs,e.frf,e.hok,e.bare⟩
section
variable {X:Cx} {pins:List (Addr × Obj)} {σ:St} {H:Hp} {s s':Shared}
theorem Zs.env0 (I:Zs X pins σ H s):Env0 X.prog X.w X.K X.mg X.base X.A X.stack s H :=
 ⟨I.ok.frames,I.ok.mod,I.bs,Nat.le_trans I.ok.bsz I.sz,I.stack,I.stkFree,I.hok,I.bare⟩
theorem Zs.after {Q:VK} {u:Value} (I:Zs X pins σ H s) (h:CE X.stack X.prog X.w H s Q u s'):EP X pins σ Q u s':=by
 obtain ⟨v,H',os,bare,un,hok,r,q⟩:=h
 obtain ⟨hh,g,d,t,os'⟩:=s'
 obtain rfl:os'=s.os:=os
 exact ⟨v,H',I.call (h':=hh) (g':=g) (d':=d) (t':=t) (ch:=[]) un hok bare (fun b z=>absurd z (by simp)),r,q⟩
end
def tCall (sp:Sp) (dvs:List V) (E:XK) (t:TA):TE:=fun σ H Q=>t σ H fun vs H1=>sp (vs++dvs) H1 Q E
def Binds (K:W.Frag) (fd:FuncData) (ps:List Str) (ds:List Value):Prop :=
 ∀ (s:Shared) (us:List Value),K.In s.heap->(us++ds).length=ps.length->BindsTo s fd ⟨us,[]⟩ (ps.zip (us++ds))
theorem Binds.all {K:W.Frag} {fd:FuncData} {ps:List Str} (h:∀ us:List Value,us.length=ps.length->bindArgs fd ⟨us,[]⟩=pure (ps.zip us)):Binds K fd ps []:=fun s us _ hl=>by
 rw [List.append_nil] at hl ⊢
 exact .of_eq (h us hl)
def Passes (CX:CXT) (X:Cx) (E:XK):Prop:=∀ (pins:List (Addr × Obj)) (σ:St) (H:Hp) (s:Shared) (e:Value) (s':Shared),Zs X pins σ H s->CX X.stack H s E e s'->X.xe e s'
section
variable {X:Cx} {CX:CXT} {k:Nat} {f C:Addr} {fd:FuncData} {ps:List Str} {sp:Sp} {dvs:List V} {ds:List Value} {E:XK} {x m:Str} {p pos apos:Pos} {e o:Expr} {es:List Expr} {ta:TE} {t:TA}
theorem run_fn {pins:List (Addr × Obj)} {σ:St} {H:Hp} {s:Shared} {Q:VK} {us:List Value} {vs:List V} (F:Y4 X.prog X.w X.K X.mg X.base CX k f fd ps sp) (hr:Vr k X.A) (hb:Binds X.K fd ps ds) (hd:Z9 dvs ds) (hx:Passes CX X E)
  (I:Zs X pins σ H s) (r:Z9 vs us) (h:sp (vs++dvs) H Q E):wpAny (model X.prog X.w) X.A (call (.ref f) us) (EP X pins σ Q) X.xe s:=by
 have r2:Z9 (vs++dvs) (us++ds):=r.append hd
 have hl:(us++ds).length=ps.length:=by rw [<-r2.length]; exact F.len _ _ _ _ h
 refine wpAny_call (codeAny_mono (F.run X.A X.stack s H ⟨us,[]⟩ (us++ds) (vs++dvs) Q E hr I.env0 (hb s us I.kIn hl) r2 h) fun r s' hq=>?_)
 cases r with
 | error e=>exact hx pins σ H s e s' I hq
 | ok fl =>
  cases fl with
  | ret u=>exact I.after hq
  | next=>exact False.elim hq
  | brk=>exact False.elim hq
  | cont=>exact False.elim hq
theorem pe_call (F:Y4 X.prog X.w X.K X.mg X.base CX k f fd ps sp) (hr:Vr k X.A) (hg:Gl X x) (hm:X.mg x=some (.ref f)) (hk:W.keepIn X.K (.ref f)=true) (hb:Binds X.K fd ps ds) (hd:Z9 dvs ds) (hx:Passes CX X E)
  (ha:PA X (e::es) t) (hdb:(x == ("__debug__" : Str))=false:=by decide) (he:starEach (e::es) X.env=(false,eval e X.env)::starEach es X.env:=by rfl) (hpl:(backTo pos (starEach es X.env)).any (·.1)=false:=by rfl) :
  PE X (.Call (.Name x p) (e::es) [] pos) (tCall sp dvs E t):=by
 intro pins s σ H Q I h
 refine wpAny_Call_Name_kw (ld_glob I hg hm ?_ hdb)
 refine W.callWith_K (h₀:=X.base) I.ok.mod.kin hk (Y9 (ha pos pins s σ H _ I h) fun us s1 ⟨vs,H1,I1,r,q⟩=>⟨I1.kIn, ?_⟩) he hpl
 exact run_fn F hr hb hd hx I1 r q
structure Mk (K:W.Frag) (C f:Addr):Prop where
 makes:W.makesIn K C=true
 init:W.findIn K (.ref C) "__init__" = some (some (.ref f))
 fn:W.isFn K (.ref f)=true
 kp:W.keepIn K (.ref C)=true
end
section
variable {X:Cx} {CX:CXT} {k:Nat} {f C:Addr} {fd:FuncData} {ps ks:List Str} {sp:Sp} {E:XK} {x m:Str} {p pos apos kpos:Pos} {e o:Expr} {es:List Expr} {kws:List Keyword} {te ta:TE} {t tk:TA} {nm:Option Str}
structure KBinds (K:W.Frag) (fd:FuncData) (ps ks:List Str) (g:List Value->List Value->List Value) (gV:List V->List V->List V):Prop where
 to:∀ (s:Shared) (us ws:List Value),K.In s.heap->(g us ws).length=ps.length->BindsTo s fd ⟨us,ks.zip ws⟩ (ps.zip (g us ws))
 rel:∀ {vs:List V} {us:List Value} {zs:List V} {ws:List Value},Z9 vs us->Z9 zs ws->Z9 (gV vs zs) (g us ws)
variable {g:List Value->List Value->List Value} {gV:List V->List V->List V}
end
structure Yk (N P:List Str) (sc:Scope):Prop where
 kind:sc.kind=.function
 co:sc.isCoroutine=false
 gen:sc.isGenerator=false
 nd:N.Nodup
 pre:N.take P.length=P
 par:∀ x∈P,sc.names.lookup x=some .local\/sc.names.lookup x=some .cell
 nofree:∀ y∈sc.names,y.2≠.free
theorem bindL_out {kindOf:Str->Option NameKind} {x:Str}:∀ {binds:List (Str × Value)} {m:Str->Option Value},(∀ v,(x,v) ∉ binds)->bindL kindOf binds m x=m x
 | [],_,_=>rfl
 | (n,v)::r,m,h=>by
  unfold bindL
  rw [bindL_out fun w hw=>h w (List.mem_cons_of_mem _ hw)]
  split
  ·have:x≠n:=by rintro rfl; exact h v List.mem_cons_self
   simp [this]
  ·rfl
theorem bindC_out {kindOf:Str->Option NameKind} {x:Str}:∀ {binds:List (Str × Value)} {m:Str->Option Value},(∀ v,(x,v) ∉ binds)->bindC kindOf binds m x=m x
 | [],_,_=>rfl
 | (n,v)::r,m,h=>by
  unfold bindC
  rw [bindC_out fun w hw=>h w (List.mem_cons_of_mem _ hw)]
  split
  ·rfl
  ·have:x≠n:=by rintro rfl; exact h v List.mem_cons_self
   simp [this]
theorem bindL_get {kindOf:Str->Option NameKind} {x:Str} {v:Value}:∀ {P:List Str} {vs:List Value} {i:Nat} {m:Str->Option Value},P.Nodup->P[i]?=some x->vs[i]?=some v->kindOf x=some .local ->
  bindL kindOf (P.zip vs) m x=some v
 | [],_,_,_,_,h,_,_=>by simp at h
 | _::_,[],_,_,_,_,h,_=>by simp at h
 | p::P,w::vs,0,m,nd,h1,h2,hk=>by
  simp at h1 h2; subst h1; subst h2
  show bindL kindOf ((p,w)::P.zip vs) m p=_
  unfold bindL
  rw [bindL_out fun v hv=>(List.nodup_cons.mp nd).1 (List.of_mem_zip hv).1,if_pos hk]
  simp
 | p::P,w::vs,i+1,m,nd,h1,h2,hk=>by
  show bindL kindOf ((p,w)::P.zip vs) m x=_
  unfold bindL
  exact bindL_get (i:=i) (List.nodup_cons.mp nd).2 (by simpa using h1) (by simpa using h2) hk
theorem bindC_get {kindOf:Str->Option NameKind} {x:Str} {v:Value}:∀ {P:List Str} {vs:List Value} {i:Nat} {m:Str->Option Value},P.Nodup->P[i]?=some x->vs[i]?=some v->kindOf x≠some .local ->
  bindC kindOf (P.zip vs) m x=some v
 | [],_,_,_,_,h,_,_=>by simp at h
 | _::_,[],_,_,_,_,h,_=>by simp at h
 | p::P,w::vs,0,m,nd,h1,h2,hk=>by
  simp at h1 h2; subst h1; subst h2
  show bindC kindOf ((p,w)::P.zip vs) m p=_
  unfold bindC
  rw [bindC_out fun v hv=>(List.nodup_cons.mp nd).1 (List.of_mem_zip hv).1,if_neg hk]
  simp
 | p::P,w::vs,i+1,m,nd,h1,h2,hk=>by
  show bindC kindOf ((p,w)::P.zip vs) m x=_
  unfold bindC
  exact bindC_get (i:=i) (List.nodup_cons.mp nd).2 (by simpa using h1) (by simpa using h2) hk
def start (N:List Str) (vs:List V):St:=vs.map some++List.replicate (N.length - vs.length) none
def cxOf (CX:CXT) (P:Program) (w:World) (K:W.Frag) (mg:Str->Option Value) (base:Heap) (N:List Str) (qual:Str) (scope:Scope) (f:Addr) (cd:Value) (A:Around) (outer:List Env) (s:Shared) (H:Hp) (E:XK):Cx where
 prog:=P
 w:=w
 K:=K
 mg:=mg
 base:=base
 A:=A.deeper (envOfC qual scope s.heap.objs.size f cd)
 N:=N
 s₀:=s
 H₀:=H
 env:=envOfC qual scope s.heap.objs.size f cd
 outer:=outer
 stack:=envOfC qual scope s.heap.objs.size f cd::outer
 ex:=[]
 calm:=true
 fn:=fun _=>true
 pn:=[]
 xe:=fun e s'=>wpAny (model P w) (A.deeper (envOfC qual scope s.heap.objs.size f cd)) (leaving (envOfC qual scope s.heap.objs.size f cd) e) (fun _ s''=>CX outer H s E e s'') (fun e' s''=>CX outer H s E e' s'') s'
theorem cell_has {sc:Scope} {n:Nat} {x:Str} (h:sc.names.lookup x=some .cell):∃ c,(cellsFrom n sc.names []).lookup x=some c:=by
 have q:=W.cellsFrom_some sc.names n [] (.inl h)
 exact Option.isSome_iff_exists.mp q
theorem inv_start {CX:CXT} {P:Program} {w:World} {K:W.Frag} {mg:Str->Option Value} {base:Heap} {N ps:List Str} {qual:Str} {scope:Scope} {f:Addr} {cd:Value} {A:Around} {outer:List Env} {s s1:Shared} {H:Hp} {E:XK} {us:List Value} {vs:List V}
  (S:Yk N ps scope) (hd:A.handled=none) (e0:Env0 P w K mg base A outer s H) (hl:vs.length=ps.length) (r:Z9 vs us)
  (x:InCallC s s.heap.objs.size (bindL (envOfC qual scope s.heap.objs.size f cd).kindOf (ps.zip us) fun _=>none) (cellsFrom (s.heap.objs.size+1) scope.names []) (bindC (envOfC qual scope s.heap.objs.size f cd).kindOf (ps.zip us) fun _=>none) s1) :
  Zs (cxOf CX P w K mg base N qual scope f cd A outer s H E) [] (start N vs) H s1:=by
 have hpl:ps.length<=N.length:=by have:=congrArg List.length S.pre; rw [List.length_take] at this; omega
 obtain ⟨h1,tk,rfl,hk⟩:=x.done
 have noA:∀ b:Addr,b ∉ (cxOf CX P w K mg base N qual scope f cd A outer s H E).ex:=fun b z=>absurd (show b∈([]:List Addr) from z) (by simp)
 refine ⟨⟨e0.mod,S.kind,rfl,rfl,Nat.le_refl _,fun y z c h1 h2=>?_,fun y hy=>?_,fun y c _ h=>?_,fun _=>hd,Around.frames_deeper e0.frames,.inr ⟨rfl,rfl⟩,fun b z=>absurd z (noA b),e0.bs,e0.bsz,fun b _ _=>noA b,fun b z=>absurd z (noA b),e0.funs,e0.frf⟩,
  rfl,e0.bare,Un.kept hk,⟨_,x.toInCall.ns,fun i y v h1 h2 h3=>?_⟩,fun y c h=>⟨_,x.cell y c h⟩,e0.hok.fresh (Nat.le_refl _),fun y c h=>?_,fun p hp=>absurd (show p∈([]:List (Addr × Obj)) from hp) (by simp),e0.hok.kept hk, ?_⟩
 ·exact name_of_addr x.apart (PySem.mem_of_lookup h1) (PySem.mem_of_lookup h2)
 ·have hy:scope.names.lookup y=some .cell\/scope.names.lookup y=some .free:=hy
  rcases hy with hy | hy
  ·exact cell_has hy
  ·exact absurd rfl (S.nofree _ (PySem.mem_of_lookup hy))
 ·exact Nat.le_of_lt (x.above y c (PySem.mem_of_lookup h))
 ·have hi:i<vs.length:=by
   unfold start at h2
   by_cases hi:i<vs.length
   ·exact hi
   ·rw [List.getElem?_append_right (by simpa using hi)] at h2
    rw [List.getElem?_replicate] at h2
    split at h2 <;> cases h2
  have ha:vs[i]?=some v:=by
   unfold start at h2
   rw [List.getElem?_append_left (by simpa using hi),List.getElem?_map] at h2
   cases e:vs[i]? with
   | none=>rw [e] at h2; cases h2
   | some a=>rw [e] at h2; cases h2; rfl
  obtain ⟨u,hu,rv⟩:=r.get ha
  have hp:ps[i]?=some y:=by
   rw [<-S.pre,List.getElem?_take_of_lt (by omega)]; exact h1
  have ndP:ps.Nodup:=by rw [<-S.pre]; exact S.nd.sublist (List.take_sublist _ _)
  refine ⟨u,rv, ?_⟩
  rcases S.par y (List.mem_of_getElem? hp) with k | k
  ·exact .inl ⟨k,bindL_get ndP hp hu k⟩
  ·obtain ⟨c,e⟩:=cell_has (n:=s.heap.objs.size+1) k
   refine .inr ⟨.inl k,c,e, ?_⟩
   have q:=x.cell y c e
   rw [bindC_get ndP hp hu (by show scope.names.lookup y≠_; rw [k]; decide)] at q
   exact q
 ·exact e0.hok.fresh (Nat.le_of_lt (x.above y c (PySem.mem_of_lookup h)))
 ·unfold start
  show _=N.length
  rw [List.length_append,List.length_map,List.length_replicate]
  omega
theorem fn_of {CX:CXT} {P:Program} {w:World} {K:W.Frag} {mg:Str->Option Value} {base:Heap} {k:Nat} {f:Addr} {name qual:Str} {params:Arguments} {body:List Stmt} {scope:Scope} {dV kV doc pm cdv ct oc:Value} {an od:Option Addr}
  {osl:Array (Option Value)} {N ps:List Str} {sp:Sp} (lk:K.lookup f=some ⟨oc,od,.func (W.fnOf name qual params body scope dV kV doc pm an cdv ct),osl⟩) (hcd:W.codeIn K cdv qual=true) (S:Yk N ps scope)
  (len:∀ vs H Q E,sp vs H Q E->vs.length=ps.length)
  (hbody:∀ (A:Around) (outer:List Env) (s:Shared) (H:Hp) (vs:List V) (Q:VK) (E:XK),Vr k (A.deeper (envOfC qual scope s.heap.objs.size f cdv))->sp vs H Q E ->
   ∃ t,PSs (cxOf CX P w K mg base N qual scope f cdv A outer s H E) body t/\t { nx:=fun _ H'=>Q .non H',rt:=Q } (start N vs) H) :
  Y4 P w K mg base CX (k+1) f (W.fnOf name qual params body scope dV kV doc pm an cdv ct) ps sp:=by
 refine ⟨len,fun A outer s H args us vs Q E hr e0 hb r hsp=>?_⟩
 have hl:=len _ _ _ _ hsp
 have KX:K.In s.heap:=e0.mod.kin.keeps fun b o e=>(e0.bs b o e).1
 have lim:s.heap.NoLimit:=e0.mod.nolimit.keeps fun b o e=>(e0.bs b o e).1
 have hkind:∀ y∈ps.zip us,scope.names.lookup y.1=some .local\/(scope.names.lookup y.1=some .cell/\((cellsFrom (s.heap.objs.size+1) scope.names []).lookup y.1).isSome=true):=fun ⟨n,v⟩ hy=>by
  rcases S.par n (List.of_mem_zip hy).1 with q | q
  ·exact .inl q
  ·exact .inr ⟨q,W.cellsFrom_some _ _ _ (.inl q)⟩
 refine codeAny_call_function hr.depth (KX _ _ lk) rfl S.co S.gen rfl (W.codeRec_of KX hcd) (hb _ _ _ _ ?_)
 refine wpAny_newFunctionEnv_cells S.kind hkind fun env he s1 x=>?_
 subst he
 refine ⟨lim.keeps x.toInCall.keep,codeAny_func ?_⟩
 obtain ⟨t,ht,hq⟩:=hbody A outer s H vs Q E (hr.deeper _) hsp
 have I:Zs (cxOf CX P w K mg base N qual scope f cdv A outer s H E) [] (start N vs) H s1:=inv_start S hr.hd e0 hl r x
 refine wpAny_mono (ht [] s1 (start N vs) H _ I hq) (fun fl s' hs=>?_) fun e s' hs=>hs
 have fin:∀ {σ':St} {H':Hp} {v:V} {u:Value},Zs (cxOf CX P w K mg base N qual scope f cdv A outer s H E) [] σ' H' s'->Z2 v u->Q v H'->CE outer P w H s Q u s' :=
  fun {σ' H' v u} J rv q=>⟨v,H',J.os,J.bare,J.base,J.hok,rv,q⟩
 cases fl with
 | ret u =>
  obtain ⟨v,σ',H',J,rv,q⟩:=hs
  exact fin J rv q
 | next =>
  obtain ⟨σ',H',J,q⟩:=hs
  exact fin (v:=V.non) (u:=Value.none) J rfl q
 | brk =>
  obtain ⟨_,_,_,q⟩:=hs
  exact False.elim q
 | cont =>
  obtain ⟨_,_,_,q⟩:=hs
  exact False.elim q
section
variable {X:Cx} {x:Str} {p pos:Pos} {e:Expr} {es:List Expr} {t:TA} {id T:String} {r:List V->Hp->VK->Prop}
def tCB (r:List V->Hp->VK->Prop) (t:TA):TE:=fun σ H Q=>t σ H fun vs H1=>r vs H1 Q
theorem Yy (hc:CallR X (.builtin id) r) (hg:Gl X x) (hm:X.mg x=none) (hv:bootBuiltins x=some (.builtin id)) (ha:PA X (e::es) t) (hn:x ≠ "__name__" := by decide) (hdb:(x == ("__debug__" : Str))=false:=by decide)
  (he:starEach (e::es) X.env=(false,eval e X.env)::starEach es X.env:=by rfl) (hpl:(backTo pos (starEach es X.env)).any (·.1)=false:=by rfl):PE X (.Call (.Name x p) (e::es) [] pos) (tCB r t):=by
 intro pins s σ H Q I h
 refine wpAny_Call_Name_kw (ld_blt I hg hm hv ?_ hn hdb)
 exact callWith_builtin1 (Y9 (ha pos pins s σ H _ I h) fun us s1 ⟨vs,H1,I1,r1,q1⟩=>hc pins s1 σ H1 vs us Q I1 r1 q1) he hpl
theorem Ze (hc:CallR X (.type T) r) (hg:Gl X x) (hm:X.mg x=none) (hv:bootBuiltins x=some (.type T)) (ha:PA X (e::es) t) (hn:x ≠ "__name__" := by decide) (hdb:(x == ("__debug__" : Str))=false:=by decide)
  (he:starEach (e::es) X.env=(false,eval e X.env)::starEach es X.env:=by rfl) (hpl:(backTo pos (starEach es X.env)).any (·.1)=false:=by rfl):PE X (.Call (.Name x p) (e::es) [] pos) (tCB r t):=by
 intro pins s σ H Q I h
 refine wpAny_Call_Name_kw (ld_blt I hg hm hv ?_ hn hdb)
 exact callWith_type1 (Y9 (ha pos pins s σ H _ I h) fun us s1 ⟨vs,H1,I1,r1,q1⟩=>hc pins s1 σ H1 vs us Q I1 r1 q1) he hpl
end
end L2
namespace HT
open PySem PyProof.Rows
section
open PySem.SeqAt
open PySem.AutoSeq1 (wpAny_loadPart')
open PySem.MeetsSeq PySem.MeetsSeq2 PySem.MeetsSeq3
end
section
variable {prog:Program} {w:World} {A:Around} {E:Value->Shared->Prop} {s:Shared}
theorem cat_tup {t b:Addr} {vs ws:List Value} {Q:Value->Shared->Prop} (ht:IsTup s.heap t vs.toArray) (hb:IsTup s.heap b ws.toArray) (hv:vs≠[])
  (h1:ws=[]->Q (.ref t) s) (h2:ws≠[]->Q (.ref s.heap.objs.size) { s with heap:=s.heap.push { cls:=.type "tuple",data:=.seq (vs++ws).toArray } })
  (hsz:vs.length+ws.length<=sizeLine):wpAny (model prog w) A (binaryOp .Add (.ref t) (.ref b)) Q E s:=by
 obtain ⟨⟨cls,dd,data,sl⟩,ho,hc,n,hd⟩:=id ht
 obtain ⟨⟨cls2,dd2,data2,sl2⟩,ho2,hc2,n2,hd2⟩:=id hb
 simp only at hc hd hc2 hd2
 subst hc hd hc2 hd2
 have e:vs.toArray++ws.toArray=(vs++ws).toArray:=by simp
 by_cases hw:ws=[]
 ·exact concat_meets ⟨_,ho,rfl⟩ ⟨_,ho2,rfl⟩ noFill_tuple_add seq_tuple_add PySem.F.slot_tuple_add PySem.F.entry_tuple_add (PySem.F.args_tuple_add_2 _ _)
   (tuple_addW1 t b vs.toArray ws.toArray n n2 dd dd2 sl sl2 (by simpa using hv) (by simp [hw])) ⟨ho,ho2,h1 hw⟩
 ·refine concat_meets ⟨_,ho,rfl⟩ ⟨_,ho2,rfl⟩ noFill_tuple_add seq_tuple_add PySem.F.slot_tuple_add PySem.F.entry_tuple_add (PySem.F.args_tuple_add_2 _ _)
   (tuple_addW2 t b vs.toArray ws.toArray n n2 dd dd2 sl sl2 (by simpa using hv) (by simpa using hw) (by rw [List.size_toArray,List.size_toArray]; exact hsz)) ⟨ho,ho2, ?_⟩
  rw [e]
  exact h2 hw
def Vb (n d:Nat):Option Int->Nat
 | none=>d
 | some v=>if v<0 then (v+(n:Int)).toNat else min v.toNat n
theorem sIx_none (n d:Nat):Vb n d none=d:=rfl
theorem sIx_nat (n d k:Nat):Vb n d (some (k:Int))=min k n:=by
 show (if (k:Int)<0 then ((k:Int)+(n:Int)).toNat else min (k:Int).toNat n)=min k n
 rw [if_neg (by omega),Int.toNat_natCast]
theorem sIx_le (n d:Nat) (hd:d<=n) (o:Option Int):Vb n d o<=n:=by
 cases o with
 | none=>exact hd
 | some v =>
  show (if v<0 then (v+(n:Int)).toNat else min v.toNat n)<=n
  by_cases hv:v<0
  ·rw [if_pos hv]; omega
  ·rw [if_neg hv]; exact Nat.min_le_right _ _
theorem clip_eq (v:Int) (n d:Nat):(if v<0 then max (v+(n:Int)) 0 else min v (n:Int))=((Vb n d (some v):Nat):Int):=by
 show (if v<0 then max (v+(n:Int)) 0 else min v (n:Int))=(((if v<0 then (v+(n:Int)).toNat else min v.toNat n):Nat):Int)
 by_cases hv:v<0
 ·simp only [if_pos hv]; omega
 ·simp only [if_neg hv]; omega
theorem adjust_gen (lo hi:Option Int) (n:Nat):Builtin.Slice.sliceAdjust lo hi 1 (n:Int)=(((Vb n 0 lo:Nat):Int),((Vb n n hi:Nat):Int)):=by
 have h1:¬ ((1:Int)<0):=by omega
 unfold Builtin.Slice.sliceAdjust
 simp only [h1,if_false]
 refine Prod.ext ?_ ?_
 ·cases lo with
  | none=>rfl
  | some v=>exact clip_eq v n 0
 ·cases hi with
  | none=>rfl
  | some v=>exact clip_eq v n n
theorem places_gen (i j:Nat):Builtin.Slice.slicePlaces (i:Int) (j:Int) 1=j - i:=by
 unfold Builtin.Slice.slicePlaces
 have h1:(1:Int)>0:=by omega
 simp only [h1,if_true,Int.ediv_one]
 split <;> omega
theorem slicePart_ {v:Value} {o:Option Int} {Q:Option Int->Shared->Prop} (p:IsPart v o) (h:Q o s):wpAny (model prog w) A (Builtin.Slice.slicePartIndex v) Q E s:=by
 cases p with
 | none=>exact slicePart_none h
 | int i t=>exact slicePart_int h
theorem sliceApplied_gen {sl:Addr} {vl vu:Value} {lo hi:Option Int} {n:Nat} {Q:Int × Int × Nat->Shared->Prop} (hs:s.heap.IsSliceOf sl vl vu .none) (pl:IsPart vl lo) (pu:IsPart vu hi)
  (h:Q (((Vb n 0 lo:Nat):Int),1,Vb n n hi - Vb n 0 lo) s):wpAny (model prog w) A (Builtin.Slice.sliceApplied (.ref sl) (pure (n:Int))) Q E s:=by
 obtain ⟨os,hos,hcs,hds⟩:=id hs
 unfold Builtin.Slice.sliceApplied Builtin.Slice.sliceFields
 refine wpAny_bind (wpAny_bind (wpAny_field hos hds (x:=vl) rfl (wpAny_bind (wpAny_field hos hds (x:=vu) rfl (wpAny_bind (wpAny_field hos hds (x:=.none) rfl (wpAny_pure ?_)))))))
 refine wpAny_bind (slicePart_none ?_)
 show wpAny _ _ (if ((1:Int) == 0)=true then _ else _) _ _ s
 rw [if_neg (by decide)]
 refine wpAny_bind (slicePart_ pl (wpAny_bind (slicePart_ pu (wpAny_bind (wpAny_pure ?_)))))
 show wpAny _ _ (match Builtin.Slice.sliceAdjust lo hi 1 (n:Int) with | (lo,hi)=>pure (lo,(1:Int),Builtin.Slice.slicePlaces lo hi 1)) _ _ s
 rw [adjust_gen lo hi n]
 show wpAny _ _ (pure (((Vb n 0 lo:Nat):Int),(1:Int),Builtin.Slice.slicePlaces ((Vb n 0 lo:Nat):Int) ((Vb n n hi:Nat):Int) 1)) _ _ s
 rw [places_gen]
 exact wpAny_pure h
theorem pick_gen (xs:Array Value) (i k:Nat):((List.range k).filterMap fun (m:Nat)=>xs[((i:Int)+(m:Int) * 1).toNat]?).toArray=((xs.toList.drop i).take k).toArray:=by
 have e:(fun (m:Nat)=>xs[((i:Int)+(m:Int) * 1).toNat]?)=fun m=>xs[i+m]?:=by
  funext m
  have:((i:Int)+(m:Int) * 1).toNat=i+m:=by omega
  rw [this]
 rw [e]
 have:=pick_run xs i k
 rw [List.filterMap_map] at this
 have e2:((fun x=>xs[x]?) ∘ fun x=>i+x)=fun m=>xs[i+m]?:=rfl
 rw [e2] at this
 rw [this]
theorem getItem_tuple_cut {t sl:Addr} {items:Array Value} {vl vu:Value} {lo hi:Option Int} {Q:Value->Shared->Prop} (ht:IsTup s.heap t items) (hs:s.heap.IsSliceOf sl vl vu .none) (pl:IsPart vl lo) (pu:IsPart vu hi)
  (hw:¬ (Vb items.size 0 lo=0/\Vb items.size items.size hi=items.size))
  (h:Q (.ref s.heap.objs.size) { s with heap:=s.heap.push { cls:=.type "tuple",data:=.seq ((items.toList.drop (Vb items.size 0 lo)).take (Vb items.size items.size hi - Vb items.size 0 lo)).toArray } })
  (hsz:items.size<=sizeLine):wpAny (model prog w) A (getItem (.ref t) (.ref sl)) Q E s:=by
 have htake:sizeOk (.seq ((items.toList.drop (Vb items.size 0 lo)).take (Vb items.size items.size hi - Vb items.size 0 lo)).toArray):=by
  show ((items.toList.drop (Vb items.size 0 lo)).take (Vb items.size items.size hi - Vb items.size 0 lo)).toArray.size<=sizeLine
  rw [List.size_toArray,List.length_take,List.length_drop,Array.length_toList]
  omega
 have hj:Vb items.size items.size hi<=items.size:=sIx_le _ _ (Nat.le_refl _) hi
 obtain ⟨os,hos,hcs,hds⟩:=id hs
 have hTs:s.TypeIs (.ref sl) "slice" := ⟨os,hos,hcs⟩
 unfold getItem
 try with_reducible refine wpAny_holding ?_
 first | refine wpAny_bind (wpAny_pure ?_) | skip
 refine wpAny_bind (wpAny_sequenceKey ht.typeIs (by decide) ?_)
 refine wpAny_bind (wpAny_callSpecial?_slot (name:=Str.ofString "__getitem__") ht.typeIs slot_tuple_getitem
  (wpAny_call_entry slot_tuple_getitem ht.typeIs entry_tuple_getitem ?_ (args_tuple_getitem _ _)))
 show wpAny _ _ (Builtin.Tuple.tupleItemsOf (.ref t) >>= _) _ _ s
 refine wpAny_bind (tupleItemsOf_ ht ?_)
 refine wpAny_bind (wpAny_typeOf hTs ?_)
 rw [if_pos (by decide)]
 refine wpAny_bind (sliceApplied_gen hs pl pu ?_)
 have hno:¬ ((((Vb items.size 0 lo:Nat):Int) == 0 && (1:Int) == 1 && (Vb items.size items.size hi - Vb items.size 0 lo) == items.size)=true):=by
  intro q
  rw [Bool.and_eq_true,Bool.and_eq_true] at q
  have q1:((Vb items.size 0 lo:Nat):Int)=0:=eq_of_beq q.1.1
  have q2:Vb items.size items.size hi - Vb items.size 0 lo=items.size:=eq_of_beq q.2
  exact hw ⟨by omega,by omega⟩
 show wpAny _ _ (if (((Vb items.size 0 lo:Nat):Int) == 0 && (1:Int) == 1 && (Vb items.size items.size hi - Vb items.size 0 lo) == items.size)=true then _ else _) _ _ s
 rw [if_neg hno,pick_gen]
 first
  | exact wpAny_bind (m:=Builtin.Tuple.tupleExact _) (wpAny_newObj_type (wpAny_pure ⟨_,rfl,wpAny_pure h⟩) htake)
  | exact wpAny_bind (m:=Builtin.Tuple.tupleExact _) (wpAny_newObj_type (wpAny_bind (wpAny_pure (wpAny_pure ⟨_,rfl,wpAny_pure h⟩))) htake)
  | exact wpAny_bind (wpAny_bind (m:=Builtin.Tuple.tupleExact _) (wpAny_newObj_type (wpAny_pure (wpAny_pure ⟨_,rfl,wpAny_pure h⟩)) htake))
  | exact wpAny_bind (wpAny_bind (m:=Builtin.Tuple.tupleExact _) (wpAny_newObj_type (wpAny_pure ⟨_,rfl,wpAny_pure h⟩) htake))
end
end HT
namespace L2
open PySem PySem.Spec PyProof.Rows
abbrev TO:=St->Hp->(Option Int->Hp->Prop)->Prop
def PO (X:Cx) (e:Option Expr) (t:TO):Prop :=
 ∀ (pins:List (Addr × Obj)) (s:Shared) (σ:St) (H:Hp) (Q:Option Int->Hp->Prop),Zs X pins σ H s->t σ H Q ->
  wpAny (model X.prog X.w) X.A (evalPart e X.env) (fun u s'=>∃ o H',Zs X pins σ H' s'/\IsPart u o/\Q o H') X.xe s
def tNoPart:TO:=fun _ H Q=>Q none H
def tPart (t:TE):TO:=fun σ H Q=>t σ H fun x H1=>∃ i,x=.int i/\Q (some i) H1
section
variable {X:Cx} {e:Expr} {te:TE} {lo hi:Option Expr} {tl th:TO} {pos p2:Pos}
theorem po_none:PO X none tNoPart:=by
 intro pins s σ H Q I h
 rw [evalPart_none]
 exact wpAny_pure ⟨none,H,I,.none,h⟩
theorem po_some (h:PE X e te):PO X (some e) (tPart te):=by
 intro pins s σ H Q I hw
 rw [evalPart_some]
 refine Y9 (h pins s σ H _ I hw) fun u s1 ⟨x,H1,I1,r1,q1⟩=>?_
 obtain ⟨i,rfl,q⟩:=q1
 obtain ⟨t,rfl⟩:=r1
 exact ⟨some i,H1,I1,.int i t,q⟩
def SlR (X:Cx) (r:V->Option Int->Option Int->Hp->VK->Prop):Prop :=
 ∀ (pins:List (Addr × Obj)) (s:Shared) (σ:St) (H:Hp) (x:V) (v vl vu:Value) (lo hi:Option Int) (sl:Addr) (Q:VK),Zs X pins σ H s->Z2 x v->s.heap.IsSliceOf sl vl vu .none->IsPart vl lo->IsPart vu hi->r x lo hi H Q ->
  ∃ T id,typeLookup (.type T) "__getitem__" = pure (some (.builtin id))/\s.TypeIs v T/\wpAny (model X.prog X.w) X.A (getItem v (.ref sl)) (EP X pins σ Q) X.xe s
def tSl (r:V->Option Int->Option Int->Hp->VK->Prop) (te:TE) (tl th:TO):TE:=fun σ H Q=>te σ H fun x H1=>tl σ H1 fun l H2=>th σ H2 fun u H3=>r x l u H3 Q
theorem pe_slice {r:V->Option Int->Option Int->Hp->VK->Prop} (hr:SlR X r) (he:PE X e te) (hl:PO X lo tl) (hu:PO X hi th):PE X (.Subscript e (.Slice lo hi none p2) pos) (tSl r te tl th):=by
 intro pins s σ H Q I h
 refine Subscript_ (Y9 (he pins s σ H _ I h) fun v s1 ⟨x,H1,I1,r1,q1⟩=>?_)
 refine wpAny_Slice (Y9 (hl pins s1 σ H1 _ I1 q1) fun vl s2 ⟨l,H2,I2,pl,q2⟩=>Y9 (hu pins s2 σ H2 _ I2 q2) fun vu s3 ⟨u,H3,I3,pu,q3⟩=>?_)
 rw [evalPart_none]
 refine wpAny_pure ?_
 have I4:Zs X pins σ H3 { s3 with heap:=s3.heap.push { cls:=.type "slice",data:=.fields #[vl,vu,.none] } }:=I3.kept (t':=s3.toks) fun b ob q=>Heap.get?_push_of_some _ q
 obtain ⟨T,id,hT,ht,hg⟩:=hr pins { s3 with heap:=s3.heap.push { cls:=.type "slice",data:=.fields #[vl,vu,.none] } } σ H3 x v vl vu l u s3.heap.objs.size Q I4 r1 (Heap.IsSliceOf.new ..) pl pu q3
 show wpAny (model X.prog X.w) X.A (subscriptTail e (.Slice lo hi none p2) v (.ref s3.heap.objs.size)) (EP X pins σ Q) X.xe { s3 with heap:=s3.heap.push { cls:=.type "slice",data:=.fields #[vl,vu,.none] } }
 exact tail_any (ops:=[.ref s3.heap.objs.size,v]) ht hT hg (by with_unfolding_all rfl)
def cutV (xs:List V) (lo hi:Option Int):List V:=(xs.drop (HT.Vb xs.length 0 lo)).take (HT.Vb xs.length xs.length hi - HT.Vb xs.length 0 lo)
theorem cutV_length (xs:List V) (lo hi:Option Int):(cutV xs lo hi).length<=xs.length:=by
 unfold cutV
 rw [List.length_take,List.length_drop]
 omega
def rSlT (K:W.Frag):V->Option Int->Option Int->Hp->VK->Prop:=fun x lo hi H Q=>∃ a xs,x=.ref a/\Z6 K H a xs /\
 ¬ (HT.Vb xs.length 0 lo=0/\HT.Vb xs.length xs.length hi=xs.length)/\∀ p,H p=none->Q (.ref p) (Z3 H p (.tup (cutV xs lo hi)))
theorem sl_tup:SlR X (rSlT X.K):=by
 intro pins s σ H x v vl vu lo hi sl Q I rx hs pl pu h
 obtain ⟨a,xs,rfl,hx,hw,q⟩:=h
 cases rx
 obtain ⟨its,r,ht,hz⟩:=I.tuple hx
 have hlen:its.toArray.size=xs.length:=by rw [List.size_toArray]; exact r.length.symm
 refine ⟨"tuple",_,slot_tuple_getitem.lookup,ht.typeIs, ?_⟩
 refine HT.getItem_tuple_cut ht hs pl pu (by rw [hlen]; exact hw) ?_ (by rw [hlen]; exact hz)
 rw [hlen]
 refine ⟨.ref s.heap.objs.size,_,I.laid (t':=s.toks) (o:=.tup (cutV xs lo hi)) (fun b ob q=>Heap.get?_push_of_some _ q) (Nat.le_refl _) ?_,rfl,q _ (I.hok.fresh (Nat.le_refl _))⟩
 exact ⟨Nat.le_trans (cutV_length xs lo hi) hz,_,(r.drop (HT.Vb xs.length 0 lo)).take (HT.Vb xs.length xs.length hi - HT.Vb xs.length 0 lo),TupN.new _ _⟩
def rCatT (K:W.Frag):R2:=fun x y H Q=>∃ a b xs ys,x=.ref a/\y=.ref b/\Z6 K H a xs/\Z6 K H b ys/\xs≠[]/\xs.length+ys.length<=sizeLine /\
 (ys=[]->Q (.ref a) H)/\(ys≠[]->∀ p,H p=none->Q (.ref p) (Z3 H p (.tup (xs++ys))))
theorem Z9.nil_iff {xs:List V} {us:List Value} (r:Z9 xs us):us=[] ↔ xs=[]:=by
 cases r with
 | nil=>simp
 | cons _ _=>simp
theorem op_catT:OpR X (binaryOp .Add) (rCatT X.K):=by
 intro pins s σ H x y v u Q I rx ry h
 obtain ⟨a,b,xs,ys,rfl,rfl,ha,hb,hx,hz,q1,q2⟩:=h
 cases rx
 cases ry
 obtain ⟨its,r1,p1,_⟩:=I.tuple ha
 obtain ⟨its2,r2,p2,_⟩:=I.tuple hb
 refine HT.cat_tup p1 p2 (fun z=>hx (r1.nil_iff.mp z)) (fun z=>⟨.ref a,H,I,rfl,q1 (r2.nil_iff.mp z)⟩) (fun z=>?_) (by rw [<-r1.length, <-r2.length]; exact hz)
 refine ⟨.ref s.heap.objs.size,_,I.laid (t':=s.toks) (o:=.tup (xs++ys)) (fun b ob q=>Heap.get?_push_of_some _ q) (Nat.le_refl _) ?_,rfl,q2 (fun w=>z (r2.nil_iff.mpr w)) _ (I.hok.fresh (Nat.le_refl _))⟩
 exact ⟨by rw [List.length_append]; exact hz,_,r1.append r2,TupN.new _ _⟩
end
def ixN (n:Nat) (i:Int):Option Nat:=if 0<=i then (if i<n then some i.toNat else none) else if -(n:Int)<=i then some (i+n).toNat else none
def atI {α:Type} (xs:List α) (i:Int):Option α:=(ixN xs.length i).bind fun j=>xs[j]?
theorem ixN_seq {n:Nat} {i:Int} {j:Nat} (h:ixN n i=some j):seqIndex? i n=some j/\j<n/\-(n:Int)<=i/\i<n:=by
 unfold ixN at h
 by_cases h0:0<=i
 ·rw [if_pos h0] at h
  by_cases h1:i<n
  ·rw [if_pos h1] at h
   have e:i.toNat=j:=Option.some.inj h
   exact ⟨by rw [seqIndex_of h0 h1,e],by omega,by omega,h1⟩
  ·rw [if_neg h1] at h; cases h
 ·rw [if_neg h0] at h
  by_cases h1:-(n:Int)<=i
  ·rw [if_pos h1] at h
   have e:(i+n).toNat=j:=Option.some.inj h
   exact ⟨by rw [seqIndex_neg (by omega) h1,e],by omega,h1,by omega⟩
  ·rw [if_neg h1] at h; cases h
theorem atI_get {α:Type} {xs:List α} {i:Int} {v:α} (h:atI xs i=some v):∃ j,seqIndex? i xs.length=some j/\xs[j]?=some v/\j<xs.length/\-(xs.length:Int)<=i/\i<xs.length:=by
 unfold atI at h
 cases e:ixN xs.length i with
 | none=>rw [e] at h; cases h
 | some j =>
  rw [e] at h
  obtain ⟨h1,h2,h3,h4⟩:=ixN_seq e
  exact ⟨j,h1,h,h2,h3,h4⟩
theorem Y8 {α:Type} {xs:List α} {j:Nat} {v:α} (h:xs[j]?=some v):atI xs (j:Int)=some v:=by
 have hj:j<xs.length:=(List.getElem?_eq_some_iff.mp h).1
 have e:ixN xs.length (j:Int)=some j:=by
  unfold ixN
  rw [if_pos (by omega),if_pos (by omega)]; simp
 unfold atI; rw [e]; exact h
def PlainIx (b:Expr):Prop:=∀ o i,subscripted b false o i=operate [o,i] (getItem o i)
def IxR (X:Cx) (r:R2):Prop :=
 ∀ (value slice:Expr) (pins:List (Addr × Obj)) (s:Shared) (σ:St) (H:Hp) (x y:V) (v u:Value) (Q:VK),Zs X pins σ H s->Z2 x v->Z2 y u->r x y H Q ->
  subscripted slice false v u=operate [v,u] (getItem v u)->wpAny (model X.prog X.w) X.A (subscriptTail value slice v u) (EP X pins σ Q) X.xe s
def MtR (X:Cx) (id:String) (r:V->List V->Hp->VK->Prop):Prop :=
 ∀ (pins:List (Addr × Obj)) (s:Shared) (σ:St) (H:Hp) (x:V) (xs:List V) (v:Value) (us:List Value) (Q:VK),Zs X pins σ H s->Z2 x v->Z9 xs us->r x xs H Q ->
  wpAny (model X.prog X.w) X.A (call (.builtin id) (v::us)) (EP X pins σ Q) X.xe s
section
variable {X:Cx} {a b:Expr} {ta tb:TE} {pos:Pos}
theorem Zm {r:R2} (hr:IxR X r) (ha:PE X a ta) (hb:PE X b tb) (hs:PlainIx b):PE X (.Subscript a b pos) (tOp r ta tb):=by
 intro pins s σ H Q I h
 exact Subscript_ (binT ha hb I h fun v u s2 x y H2 I2 rx ry q=>hr a b pins s2 σ H2 x y v u Q I2 rx ry q (hs _ _))
def rIxL (K:W.Frag):R2:=fun x y H Q=>∃ p xs i v,x=.ref p/\y=.int i/\Z0 K H p xs/\atI xs i=some v/\Q v H
def rIxT (K:W.Frag):R2:=fun x y H Q=>∃ p xs i v,x=.ref p/\y=.int i/\Z6 K H p xs/\atI xs i=some v/\Q v H
theorem Z1:IxR X (rIxL X.K):=by
 intro value slice pins s σ H x y v u Q I rx ry h hs
 obtain ⟨p,xs,i,z,rfl,rfl,hq,he,q⟩:=h
 cases rx
 obtain ⟨t,rfl⟩:=ry
 obtain ⟨its,r,pl,hz⟩:=I.list hq
 obtain ⟨j,h1,h2,h3,h4,h5⟩:=atI_get he
 obtain ⟨w,ew,rw'⟩:=r.get h2
 have hl:=r.length
 have hn:=line63
 have fin:EP X pins σ Q w s:=⟨z,H,I,rw',q⟩
 by_cases h0:0<=i
 ·have hj:i.toNat=j:=by
   rw [seqIndex_of h0 h5] at h1
   exact Option.some.inj h1
  exact item_listR pl.isList h0 (by omega) (by rw [hj]; simpa using ew) fin hs
 ·have hj:(i+(its.toArray.size:Int)).toNat=j:=by
   rw [seqIndex_neg (by omega) h4] at h1
   rw [List.size_toArray, <-hl]
   exact Option.some.inj h1
  exact subscriptTail_builtinR (x:=w) pl.isList.typeIs slot_list_getitem.lookup
   (wpAny_getItem_list_neg (Q:=fun r s'=>r=w/\EP X pins σ Q r s') pl.isList (by omega) (by rw [List.size_toArray] <;> omega) (by omega) (by rw [hj]; simpa using ew) ⟨rfl,fin⟩) hs
theorem Zt:IxR X (rIxT X.K):=by
 intro value slice pins s σ H x y v u Q I rx ry h hs
 obtain ⟨p,xs,i,z,rfl,rfl,hq,he,q⟩:=h
 cases rx
 obtain ⟨t,rfl⟩:=ry
 obtain ⟨its,r,pl,hz⟩:=I.tuple hq
 obtain ⟨j,h1,h2,h3,h4,h5⟩:=atI_get he
 obtain ⟨w,ew,rw'⟩:=r.get h2
 have hl:=r.length
 have hn:=line63
 have fin:EP X pins σ Q w s:=⟨z,H,I,rw',q⟩
 exact subscriptTail_builtinR (x:=w) pl.typeIs slot_tuple_getitem.lookup
  (getItem_tuple (j:=j) (Q:=fun r s'=>r=w/\EP X pins σ Q r s') pl (by omega) (by omega) (by rw [List.size_toArray, <-hl]; exact h1) (by simpa using ew) ⟨rfl,fin⟩) hs
theorem mapSeq_set (its:List Value) (n j:Nat) (u:Value):Obj.mapSeq (·.setIfInBounds j u) { cls:=.type "list",data:=.seq its.toArray n }={ cls:=.type "list",data:=.seq (its.set j u).toArray n }:=by
 simp [Obj.mapSeq]
theorem Zs.lst {pins:List (Addr × Obj)} {σ:St} {H:Hp} {s:Shared} {p:Addr} {xs:List V} (I:Zs X pins σ H s) (h:H p=some (.lst xs)) :
  ∃ (its:List Value) (n:Nat),Z9 xs its/\s.heap.get? p=some { cls:=.type "list",data:=.seq its.toArray n }/\xs.length<=sizeLine:=by
 obtain ⟨z,its,n,r,e⟩:=I.hok p _ h
 exact ⟨its,n,r,e,z⟩
theorem Zs.lstUpd {pins:List (Addr × Obj)} {σ:St} {H:Hp} {s:Shared} {p:Addr} {xs ys:List V} {its its':List Value} {n n':Nat} {f:Obj->Obj} (I:Zs X pins σ H s) (h:H p=some (.lst xs))
  (ho:s.heap.get? p=some { cls:=.type "list",data:=.seq its.toArray n }) (hf:f { cls:=.type "list",data:=.seq its.toArray n }={ cls:=.type "list",data:=.seq its'.toArray n' }) (r:Z9 ys its') (hz:ys.length<=sizeLine) (t:Nat) :
  Zs X pins σ (Z3 H p (.lst ys)) { s with heap:=s.heap.update p f,toks:=t }:=by
 have e:(s.heap.update p f).get? p=some { cls:=.type "list",data:=.seq its'.toArray n' }:=by
  rw [Heap.get?_update_self f ho (by rw [hf] <;> rfl),hf]
 refine I.write (x:=p) (e:=p) (by rw [h]; trivial) (.inl rfl) (fun b u hb q=>(Heap.get?_update_other _ _ (Ne.symm hb)).trans q) ⟨_,e⟩ ?_
 exact ⟨hz,its',n',r,e⟩
def rSetL:V->V->V->Hp->(Hp->Prop)->Prop:=fun o i v H Q=>∃ p xs k j,o=.ref p/\i=.int k/\H p=some (.lst xs)/\ixN xs.length k=some j/\Q (Z3 H p (.lst (xs.set j v)))
theorem set_list:PSet X rSetL:=by
 intro pins s σ H o i v ov iv u Q I ro ri rv h
 obtain ⟨p,xs,k,j,rfl,rfl,hp,hj,q⟩:=h
 cases ro
 obtain ⟨t,rfl⟩:=ri
 obtain ⟨its,n,r,ho,hz⟩:=I.lst hp
 obtain ⟨h1,h2,h3,h4⟩:=ixN_seq hj
 have hl:=r.length
 have hn:=line63
 have I':Zs X pins σ (Z3 H p (.lst (xs.set j v))) { s with heap:=s.heap.update p (Obj.mapSeq (·.setIfInBounds j u)) } :=
  I.lstUpd hp ho (mapSeq_set its n j u) (r.set rv j) (by rw [List.length_set]; exact hz) s.toks
 by_cases h0:0<=k
 ·have hk:k.toNat=j:=by
   rw [seqIndex_of h0 h4] at h1
   exact Option.some.inj h1
  exact W.ki_setAt ho h0 (by omega) (by rw [List.size_toArray, <-hl]; exact h4) (by rw [hk]; exact ⟨_,I',q⟩)
 ·have hk:(k+(its.toArray.size:Int)).toNat=j:=by
   rw [seqIndex_neg (by omega) h3] at h1
   rw [List.size_toArray, <-hl]
   exact Option.some.inj h1
  exact W.ki_setBack ho (by omega) (by rw [List.size_toArray, <-hl]; exact h3) (by omega) (by rw [hk]; exact ⟨_,I',q⟩)
theorem slice_bounds (lo hi:Option Int) (n:Nat):(sliceBounds lo hi none n).1=((HT.Vb n 0 lo:Nat):Int)/\(sliceBounds lo hi none n).2.1=((HT.Vb n n hi:Nat):Int)/\(sliceBounds lo hi none n).2.2=1:=by
 refine ⟨?_, ?_,rfl⟩
 ·cases lo with
  | none=>simp [sliceBounds,HT.Vb]
  | some i =>
   simp only [sliceBounds,HT.Vb,Option.getD_none,show (1:Int)>0 by decide,if_true]
   by_cases h:i<0
   ·simp only [h,if_true] <;> omega
   ·simp only [h,if_false] <;> omega
 ·cases hi with
  | none=>simp [sliceBounds,HT.Vb]
  | some i =>
   simp only [sliceBounds,HT.Vb,Option.getD_none,show (1:Int)>0 by decide,if_true]
   by_cases h:i<0
   ·simp only [h,if_true] <;> omega
   ·simp only [h,if_false] <;> omega
theorem slicePick_cut (its:List Value) (lo hi:Option Int):slicePick its.toArray lo hi none=((its.drop (HT.Vb its.length 0 lo)).take (HT.Vb its.length its.length hi - HT.Vb its.length 0 lo)).toArray:=by
 obtain ⟨h1,h2,h3⟩:=slice_bounds lo hi its.toArray.size
 unfold slicePick
 rw [h1,h2,h3]
 simp only [sliceRange_one,pick_run,List.size_toArray] <;> rfl
def rSlL (K:W.Frag):V->Option Int->Option Int->Hp->VK->Prop:=fun x lo hi H Q=>∃ a xs,x=.ref a/\Z0 K H a xs/\∀ p,H p=none->Q (.ref p) (Z3 H p (.lst (cutV xs lo hi)))
theorem sl_list:SlR X (rSlL X.K):=by
 intro pins s σ H x v vl vu lo hi sl Q I rx hs pl pu h
 obtain ⟨a,xs,rfl,hx,q⟩:=h
 cases rx
 obtain ⟨its,r,ht,hz⟩:=I.list hx
 have hlen:=r.length
 refine ⟨"list",_,slot_list_getitem.lookup,ht.isList.typeIs, ?_⟩
 refine wpAny_getItem_list_slice ht.isList hs pl pu .none (by simp) ?_ (by rw [List.size_toArray] <;> omega)
 rw [slicePick_cut, <-hlen]
 refine ⟨.ref s.heap.objs.size,_,I.laid (t':=s.toks) (o:=.lst (cutV xs lo hi)) (fun b ob q=>Heap.get?_push_of_some _ q) (Nat.le_refl _) ?_,rfl,q _ (I.hok.fresh (Nat.le_refl _))⟩
 exact ⟨Nat.le_trans (cutV_length xs lo hi) hz,_,0,(r.drop (HT.Vb xs.length 0 lo)).take (HT.Vb xs.length xs.length hi - HT.Vb xs.length 0 lo),Heap.get?_push_size _ rfl⟩
def flatV:V->Bool
 | .non=>true
 | .bl _=>true
 | .int _=>true
 | .str _=>true
 | _=>false
def eqV:V->V->Bool
 | .non,.non=>true
 | .bl a,.bl b=>a == b
 | .bl a,.int b=>(if a then 1 else 0) == b
 | .int a,.bl b=>a == (if b then 1 else 0)
 | .int a,.int b=>a == b
 | .str a,.str b=>a == b
 | _,_=>false
theorem eqAt_V {A:Around} {s:Shared} {y x:V} {u v:Value} (ry:Z2 y u) (rx:Z2 x v) (fy:flatV y=true) (fx:flatV x=true):SeqAt.EqAt A s u v (eqV y x):=by
 cases y with
 | non =>
  cases ry
  cases x with
  | non=>cases rx; exact SeqAt.EqAt.same _
  | bl b=>cases rx; exact SeqAt.EqAt.none_bool b
  | int b=>obtain ⟨t,rfl⟩:=rx; exact SeqAt.EqAt.none_int b t
  | str b=>obtain ⟨t,rfl⟩:=rx; exact SeqAt.EqAt.none_str b t
  | _=>exact absurd (show false=true from fx) Bool.false_ne_true
 | bl a =>
  cases ry
  cases x with
  | non=>cases rx; exact SeqAt.EqAt.bool_none a
  | bl b=>cases rx; exact SeqAt.EqAt.bool_bool a b
  | int b=>obtain ⟨t,rfl⟩:=rx; exact SeqAt.EqAt.bool_int a b t
  | str b=>obtain ⟨t,rfl⟩:=rx; exact SeqAt.EqAt.bool_str a b t
  | _=>exact absurd (show false=true from fx) Bool.false_ne_true
 | int a =>
  obtain ⟨t',rfl⟩:=ry
  cases x with
  | non=>cases rx; exact SeqAt.EqAt.int_none a t'
  | bl b=>cases rx; exact SeqAt.EqAt.int_bool a t' b
  | int b=>obtain ⟨t,rfl⟩:=rx; exact SeqAt.EqAt.int_int a t' b t
  | str b=>obtain ⟨t,rfl⟩:=rx; exact SeqAt.EqAt.int_str a t' b t
  | _=>exact absurd (show false=true from fx) Bool.false_ne_true
 | str a =>
  obtain ⟨t',rfl⟩:=ry
  cases x with
  | non=>cases rx; exact SeqAt.EqAt.str_none a t'
  | bl b=>cases rx; exact SeqAt.EqAt.str_bool a t' b
  | int b=>obtain ⟨t,rfl⟩:=rx; exact SeqAt.EqAt.str_int a t' b t
  | str b=>obtain ⟨t,rfl⟩:=rx; exact SeqAt.EqAt.str_str a t' b t
  | _=>exact absurd (show false=true from fx) Bool.false_ne_true
 | _=>exact absurd (show false=true from fy) Bool.false_ne_true
def eqU (x:V) (u:Value):Bool:=match u with
 | .none=>eqV .non x
 | .bool b=>eqV (.bl b) x
 | .int i _=>eqV (.int i) x
 | .str z _=>eqV (.str z) x
 | _=>false
theorem eqU_of {x y:V} {u:Value} (r:Z2 y u) (f:flatV y=true):eqU x u=eqV y x:=by
 cases y with
 | non=>cases r; rfl
 | bl b=>cases r; rfl
 | int i=>obtain ⟨t,rfl⟩:=r; rfl
 | str z=>obtain ⟨t,rfl⟩:=r; rfl
 | _=>exact absurd (show false=true from f) Bool.false_ne_true
theorem any_eqU {x:V}:∀ {xs:List V} {us:List Value},Z9 xs us->xs.all flatV=true->us.any (eqU x)=xs.any fun y=>eqV y x
 | _,_,.nil,_=>rfl
 | y::xs,u::us,.cons r t,f=>by
  rw [List.all_cons,Bool.and_eq_true] at f
  rw [List.any_cons,List.any_cons,eqU_of r f.1,any_eqU t f.2]
theorem mem_eqAt {A:Around} {s:Shared} {x:V} {v:Value} (rx:Z2 x v) (fx:flatV x=true):∀ {xs:List V} {us:List Value},Z9 xs us->xs.all flatV=true->∀ u∈us,SeqAt.EqAt A s u v (eqU x u)
 | _,_,.nil,_=>fun u hu=>by cases hu
 | y::xs,u::us,.cons r t,f=>fun u' hu=>by
  rw [List.all_cons,Bool.and_eq_true] at f
  rcases List.mem_cons.mp hu with rfl | hu
  ·rw [eqU_of r f.1]; exact eqAt_V r rx f.1 fx
  ·exact mem_eqAt rx fx t f.2 u' hu
def inV (x:V) (xs:List V):Bool:=xs.any fun y=>eqV y x
def rIn (K:W.Frag) (neg:Bool):R2:=fun x y H Q=>∃ p xs,y=.ref p/\(Z0 K H p xs\/Z6 K H p xs)/\flatV x=true/\xs.all flatV=true/\Q (.bl (if neg then !inV x xs else inV x xs)) H
theorem op_in_seq:OpR X (compareOp .In) (rIn X.K false):=by
 intro pins s σ H x y v u Q I rx ry h
 obtain ⟨p,xs,rfl,hq,fx,fs,q⟩:=h
 cases ry
 rcases hq with hq | hq
 ·obtain ⟨its,r,pl,hz⟩:=I.list hq
  refine SeqAt.in_listAt (eqU x) pl.isList (fun w hw=>mem_eqAt rx fx r fs w (by simpa using hw)) ⟨.bl _,H,I,rfl, ?_⟩
  rw [show its.toArray.any (eqU x)=its.any (eqU x) by simp,any_eqU r fs]
  exact q
 ·obtain ⟨its,r,pl,hz⟩:=I.tuple hq
  refine SeqAt.in_tupleAt (eqU x) pl (fun w hw=>mem_eqAt rx fx r fs w (by simpa using hw)) ⟨.bl _,H,I,rfl, ?_⟩
  rw [show its.toArray.any (eqU x)=its.any (eqU x) by simp,any_eqU r fs]
  exact q
theorem op_notIn_seq:OpR X (compareOp .NotIn) (rIn X.K true):=by
 intro pins s σ H x y v u Q I rx ry h
 obtain ⟨p,xs,rfl,hq,fx,fs,q⟩:=h
 cases ry
 rcases hq with hq | hq
 ·obtain ⟨its,r,pl,hz⟩:=I.list hq
  refine SeqAt.notIn_listAt (eqU x) pl.isList (fun w hw=>mem_eqAt rx fx r fs w (by simpa using hw)) ⟨.bl _,H,I,rfl, ?_⟩
  rw [show its.toArray.any (eqU x)=its.any (eqU x) by simp,any_eqU r fs]
  exact q
 ·obtain ⟨its,r,pl,hz⟩:=I.tuple hq
  refine SeqAt.notIn_tupleAt (eqU x) pl (fun w hw=>mem_eqAt rx fx r fs w (by simpa using hw)) ⟨.bl _,H,I,rfl, ?_⟩
  rw [show its.toArray.any (eqU x)=its.any (eqU x) by simp,any_eqU r fs]
  exact q
theorem Yl:CallR X (.builtin "len") (fun xs H Q=>∃ p ys,xs=[.ref p]/\(Z0 X.K H p ys\/Z6 X.K H p ys)/\Q (.int ys.length) H):=by
 intro pins s σ H xs us Q I r h
 obtain ⟨p,ys,rfl,hq,q⟩:=h
 obtain ⟨u,rfl,rx⟩:=vals1 r
 cases rx
 have hn:=line63
 rcases hq with hq | hq
 ·obtain ⟨its,r',pl,hz⟩:=I.list hq
  have hlen:=r'.length
  exact Calls.call_len_list pl.isList (by simp only [List.size_toArray] <;> omega) ⟨.int ys.length,H,I.tok _,⟨s.toks+1,by rw [List.size_toArray,hlen]⟩,q⟩
 ·obtain ⟨its,r',pl,hz⟩:=I.tuple hq
  have hlen:=r'.length
  exact len_tuple pl (by simp only [List.size_toArray] <;> omega) ⟨.int ys.length,H,I.tok _,⟨s.toks+1,by rw [List.size_toArray,hlen]⟩,q⟩
theorem call_list_of:CallR X (.type "list") (fun xs H Q=>∃ p ys,xs=[.ref p]/\(Z0 X.K H p ys\/Z6 X.K H p ys)/\∀ l,H l=none->Q (.ref l) (Z3 H l (.lst ys))):=by
 intro pins s σ H xs us Q I r h
 obtain ⟨p,ys,rfl,hq,q⟩:=h
 obtain ⟨u,rfl,rx⟩:=vals1 r
 cases rx
 have fin:∀ (its:List Value),Z9 ys its->ys.length<=sizeLine->∀ (h':Heap) (c':Nat),(∀ b o',s.heap.get? b=some o'->h'.get? b=some o') ->
   h'.get? s.heap.objs.size=some { cls:=.type "list",dict:=none,data:=.seq its.toArray c',slots:=#[] }->EP X pins σ Q (.ref s.heap.objs.size) { s with heap:=h' }:=fun its r' hz h' c' kp e =>
  ⟨.ref s.heap.objs.size,_,I.laid (t':=s.toks) kp (Nat.le_refl _) (show Yu X.prog X.w _ h' _ (.lst ys) from ⟨hz,its,c',r',e⟩),rfl,q _ (I.hok.fresh (Nat.le_refl _))⟩
 rcases hq with hq | hq
 ·obtain ⟨its,r',pl,hz⟩:=I.list hq
  have hlen:=r'.length
  obtain ⟨o,ho,hc,n,hd⟩:=pl.isList
  exact call_list_seq p (.inl rfl) ho hc hd (fun h' c' kp e=>fin its r' hz h' c' kp e) (by simp only [List.size_toArray] <;> omega)
 ·obtain ⟨its,r',pl,hz⟩:=I.tuple hq
  have hlen:=r'.length
  obtain ⟨o,ho,hc,n,hd⟩:=pl
  exact call_list_seq p (.inr rfl) ho hc hd (fun h' c' kp e=>fin its r' hz h' c' kp e) (by simp only [List.size_toArray] <;> omega)
theorem Zi:CallR X (.type "tuple") (fun xs H Q=>∃ p ys,xs=[.ref p]/\((Z0 X.K H p ys/\∀ l,H l=none->Q (.ref l) (Z3 H l (.tup ys)))\/(Z6 X.K H p ys/\Q (.ref p) H))):=by
 intro pins s σ H xs us Q I r h
 obtain ⟨p,ys,rfl,h⟩:=h
 obtain ⟨u,rfl,rx⟩:=vals1 r
 cases rx
 rcases h with ⟨hq,q⟩ | ⟨hq,q⟩
 ·obtain ⟨its,r',pl,hz⟩:=I.list hq
  have hlen:=r'.length
  refine call_tuple_list pl.isList (fun h' kp=>?_) (by simp only [List.size_toArray] <;> omega)
  have I1:Zs X pins σ H { s with heap:=h' }:=I.kept (t':=s.toks) kp
  have I2:Zs X pins σ (Z3 H h'.objs.size (.tup ys)) { s with heap:=h'.push { cls:=.type "tuple",data:=.seq its.toArray } } :=
   I1.laid (t':=s.toks) (fun b o e=>Heap.get?_push_of_some _ e) (Nat.le_refl _) (show Yu X.prog X.w _ _ _ (.tup ys) from ⟨hz,its,r',TupN.new _ _⟩)
  exact ⟨.ref h'.objs.size,_,I2,rfl,q _ (I1.hok.fresh (Nat.le_refl _))⟩
 ·obtain ⟨its,r',pl,hz⟩:=I.tuple hq
  exact call_tuple_same pl ⟨.ref p,H,I,rfl,q⟩
def tyV (K:W.Frag) (T:String) (x:V) (H:Hp):Prop:=match x with
 | .str _=>T = "str"
 | .int _=>T = "int"
 | .ref p=>(T = "list" /\ ∃ xs,Z0 K H p xs)\/(T = "tuple" /\ ∃ o,K.lookup p=some o/\o.cls=.type "tuple" /\ o.dict=none) \/
   (T = "dict" /\ ((∃ kvs,H p=some (.dK kvs))\/∃ kvs,H p=some (.dT kvs)))\/(T = "set" /\ ∃ S n,H p=some (.set S n))
 | _=>False
theorem tyV_is {pins:List (Addr × Obj)} {σ:St} {H:Hp} {s:Shared} {T:String} {x:V} {v:Value} (I:Zs X pins σ H s) (r:Z2 x v) (ty:tyV X.K T x H) :
  s.TypeIs v T/\∀ a,v=.ref a->∃ ob,s.heap.get? a=some ob/\ob.dict=none:=by
 cases x with
 | str z =>
  obtain ⟨t,rfl⟩:=r
  cases (show T = "str" from ty)
  exact ⟨typeIs_str s z t,fun _ e=>nomatch e⟩
 | int i =>
  obtain ⟨t,rfl⟩:=r
  cases (show T = "int" from ty)
  exact ⟨typeIs_int s i t,fun _ e=>nomatch e⟩
 | ref p =>
  cases r
  rcases ty with ⟨rfl,xs,hq⟩ | ⟨rfl,o,hk,hc,hd⟩ | ⟨rfl,hk⟩ | ⟨rfl,S,n,hk⟩
  ·obtain ⟨its,_,pl,_⟩:=I.list hq
   refine ⟨pl.isList.typeIs,fun a e=>?_⟩
   cases e
   obtain ⟨o,n,e,c,hd,_⟩:=pl
   exact ⟨o,e,hd⟩
  ·refine ⟨⟨o,I.kIn p o hk,hc⟩,fun a e=>?_⟩
   cases e
   exact ⟨o,I.kIn _ o hk,hd⟩
  ·have z:∃ o,s.heap.get? p=some o/\o.ExactDict:=by
    rcases hk with ⟨kvs,hk⟩ | ⟨kvs,hk⟩
    ·obtain ⟨_,_,_,_,o,_,_,e,ex,_⟩:=I.hok p _ hk
     exact ⟨o,e,ex⟩
    ·obtain ⟨_,_,_,_,o,_,_,e,ex,_⟩:=I.hok p _ hk
     exact ⟨o,e,ex⟩
   obtain ⟨o,e,ex⟩:=z
   refine ⟨⟨o,e,ex.1⟩,fun a e2=>?_⟩
   cases e2
   exact ⟨o,e,ex.2.1⟩
  ·obtain ⟨o,_,_,_,e,ex,_⟩:=I.hok p _ hk
   refine ⟨⟨o,e,ex.1⟩,fun a e2=>?_⟩
   cases e2
   exact ⟨o,e,ex.2.1⟩
 | _=>exact False.elim ty
def tBM (K:W.Frag) (T:String) (r:V->List V->Hp->VK->Prop) (to:TE) (t:TA):TE:=fun σ H Q=>to σ H fun x H1=>tyV K T x H1/\t σ H1 fun xs H2=>r x xs H2 Q
variable {o e:Expr} {es:List Expr} {to:TE} {t:TA} {name:Str} {apos cpos:Pos} {T id:String} {r:V->List V->Hp->VK->Prop}
theorem pe_bm (pa:PlainAttrs T) (slot:Slot T name id) (hty:typeOf (.builtin id)=pure (.type "method_descriptor")) (hm:MtR X id r) (ho:PE X o to) (ha:PA X (e::es) t)
  (hbase:attributeBase o name X.env (eval o X.env)=eval o X.env:=by rfl)
  (hfew:((backTo cpos (starEach (e::es) X.env)).all (fun x=>!x.1) && (backToKw cpos (keywordEach [] X.env)).all (fun x=>x.1.isSome)
   && decide ((e::es).length+([]:List Keyword).length+(if ([]:List Keyword).isEmpty then 0 else 1)<30))=true:=by rfl)
  (hline:(apos.endLine == cpos.line)=true:=by rfl) (hs:starEach (e::es) X.env=(false,eval e X.env)::starEach es X.env:=by rfl) (hplain:(backTo cpos (starEach es X.env)).any (·.1)=false:=by rfl) :
  PE X (.Call (.Attribute o name apos) (e::es) [] cpos) (tBM X.K T r to t):=by
 intro pins s σ H Q I h
 refine wpAny_Call_method_late hbase hfew hline rfl (Y9 (ho pins s σ H _ I h) fun v s1 ⟨x,H1,I1,r1,ty,q1⟩=>?_)
 obtain ⟨h1,h2⟩:=tyV_is I1 r1 ty
 refine ⟨T,id,pa,slot,hty,h1,h2, ?_⟩
 have hA:=ha cpos pins s1 σ H1 _ I1 q1
 rw [hs] at hA ⊢
 refine Calls.callWith_builtin (by show (false || (backTo cpos (starEach es X.env)).any (·.1))=false; rw [hplain] <;> rfl) (Calls.evalArgs_plain ?_)
 exact Y9 hA fun us s2 ⟨vs,H2,I2,r2,q2⟩=>hm pins s2 σ H2 x vs v us Q I2 r1 r2 q2
end
def MtM (X:Cx) (id:String) (r:V->List V->Hp->VK->Prop):Prop :=
 ∀ (pins:List (Addr × Obj)) (s:Shared) (σ:St) (H:Hp) (x:V) (xs:List V) (v:Value) (us:List Value) (Q:VK),Zs X pins σ H s->Z2 x v->Z9 xs us->r x xs H Q ->
  wpAny (model X.prog X.w) X.A (call (.builtin id) (v::us)) (EP X pins σ Q) X.xe s
theorem Z9.one:∀ {x:V} {us:List Value},Z9 [x] us->∃ u,us=[u]/\Z2 x u
 | _,_,.cons r .nil=>⟨_,rfl,r⟩
theorem Z9.zero:∀ {us:List Value},Z9 [] us->us=[]
 | _,.nil=>rfl
section
variable {X:Cx} {pins:List (Addr × Obj)} {σ:St} {H:Hp} {s:Shared} {l b:Addr} {xs ys zs:List V}
theorem Zs.lset {its its':List Value} {n:Nat} {f:Array Value->Array Value} {t':Nat} (I:Zs X pins σ H s) (hH:H l=some (.lst xs))
  (e:s.heap.get? l=some { cls:=.type "list",data:=.seq its.toArray n }) (hf:f its.toArray=its'.toArray) (hv:Z9 ys its') (hz:ys.length<=sizeLine) :
  Zs X pins σ (Z3 H l (.lst ys)) { s with heap:=s.heap.update l (Obj.mapSeq f),toks:=t' }:=by
 have q:=PySem.IsL.update e f
 rw [hf] at q
 refine I.write (x:=l) (e:=l) (by rw [hH]; exact trivial) (.inl rfl) (fun b' u hb hu=>(Heap.get?_update_other s.heap (Obj.mapSeq f) (Ne.symm hb)).trans hu) ⟨_,q⟩ ?_
 exact ⟨hz,its',_,hv,q⟩
theorem Zs.lnew {its:List Value} {t':Nat} (I:Zs X pins σ H s) (hv:Z9 ys its) (hz:ys.length<=sizeLine) :
  Zs X pins σ (Z3 H s.heap.objs.size (.lst ys)) { s with heap:=s.heap.push { cls:=.type "list",data:=.seq its.toArray },toks:=t' } :=
 I.laid (fun _ _ q=>Heap.get?_push_of_some _ q) (Nat.le_refl _) ⟨hz,its,0,hv,Heap.get?_push_size _ rfl⟩
theorem Zs.fresh (I:Zs X pins σ H s):H s.heap.objs.size=none:=I.hok.fresh (Nat.le_refl _)
theorem Zs.lstM (I:Zs X pins σ H s) (hH:H l=some (.lst xs)):xs.length<=sizeLine/\∃ (its:List Value) (n:Nat),Z9 xs its/\xs.length=its.length/\s.heap.get? l=some { cls:=.type "list",data:=.seq its.toArray n }:=by
 obtain ⟨z,its,n,r,e⟩:=I.hok l _ hH
 exact ⟨z,its,n,r,r.length,e⟩
end
section
variable {X:Cx}
def rAppend:V->List V->Hp->VK->Prop:=fun x vs H Q=>∃ l xs y,x=.ref l/\vs=[y]/\H l=some (.lst xs)/\xs.length<sizeLine/\Q .non (Z3 H l (.lst (xs++[y])))
theorem mt_append:MtM X "list.append" rAppend:=by
 intro pins s σ H x vs v us Q I rx rv h
 obtain ⟨l,xs,y,rfl,rfl,hH,hz,q⟩:=h
 cases rx
 obtain ⟨u,rfl,ru⟩:=rv.one
 obtain ⟨z,its,n,r,hl,e⟩:=I.lstM hH
 refine call_meets F.slot_list_append ⟨_,e,rfl⟩ F.entry_list_append (F.args_list_append_2 _ _) (PySem.list_append l its.toArray n u (by rw [List.size_toArray]; omega)) ⟨e, ?_⟩
 refine ⟨.non,_,I.lset (its':=its++[u]) hH e (by simp) (r.append (.cons ru .nil)) ?_,rfl,q⟩
 rw [List.length_append,List.length_singleton]
 omega
def rCat:R2:=fun x y H Q=>∃ l b xs zs,x=.ref l/\y=.ref b/\H l=some (.lst xs)/\H b=some (.lst zs)/\xs.length+zs.length<=sizeLine/\∀ p,H p=none->Q (.ref p) (Z3 H p (.lst (xs++zs)))
theorem op_cat:OpR X (binaryOp .Add) rCat:=by
 intro pins s σ H x y v u Q I rx ry h
 obtain ⟨l,b,xs,zs,rfl,rfl,hH,hB,hz,q⟩:=h
 cases rx
 cases ry
 obtain ⟨z,its,n,r,hl,e⟩:=I.lstM hH
 obtain ⟨z2,its2,n2,r2,hl2,e2⟩:=I.lstM hB
 refine PySem.P.add_list e e2 ?_ (by rw [List.size_toArray,List.size_toArray]; omega)
 have ea:its.toArray++its2.toArray=(its++its2).toArray:=by simp
 rw [ea]
 exact ⟨.ref _,_,I.lnew (t':=s.toks) (r.append r2) (by rw [List.length_append]; omega),rfl,q _ I.fresh⟩
theorem len_rep {α:Type} (xs:List α) (k:Nat):(List.replicate k xs).flatten.length=k * xs.length:=by
 induction k with
 | zero=>simp
 | succ k ih=>rw [List.replicate_succ,List.flatten_cons,List.length_append,ih,Nat.succ_mul,Nat.add_comm]
end
section
variable {prog:Program} {w:World} {A:Around} {E:Value->Shared->Prop} {s:Shared}
end
section
variable {X:Cx}
end
end L2
namespace Att
open PySem PySem.W PySem.Calls PyProof.Rows
theorem ints_of_wellAll {P:Params} {h:Heap}:∀ (ns:List Int) (vs:List Value),WellAll P h vs (ns.map WData.int)->IntsAre vs ns:=by
 intro ns
 induction ns with
 | nil =>
  intro vs w
  rw [List.map_nil] at w
  cases w
  exact .nil
 | cons n ns ih =>
  intro vs w
  rw [List.map_cons] at w
  cases w with
  | cons a b =>
   cases a
   exact .cons _ _ (ih _ b)
theorem script_of {l:OpenLaw} {n:Nat} (hn:l.most=some n) {P:Params} {h:Heap} {args:List WData} {vals:List Value}
  (hpre:l.row.toRowW.claim.pre args=true) (hwl:WellAll P h vals args) :
  ∃ a vs ns,vals=[Value.ref a]/\args=[WData.list (ns.map WData.int)]/\h.get? a=some { cls:=.type "list",data:=.seq vs.toArray }/\IntsAre vs ns/\ns.length<=n:=by
 have hsh:WShape.hasAll [] args [.list .int]=true:=(pre_splitW hpre).1
 have hc:l.pre.holds [] { args:=args }=true:=(pre_splitW hpre).2
 obtain ⟨d,r,rfl,h1,h2⟩:=hasAllW_cons hsh
 obtain rfl:=hasAllW_nil h2
 obtain ⟨xs,rfl,h3⟩:=hasW_list h1
 obtain ⟨ns,rfl⟩:=items_int h3
 have hlen:ns.length<=n:=by
  unfold OpenLaw.pre at hc
  have h4:(WTm.not (.lt (.lit (.int (n:Int))) (.len (.arg 0)))).holds [] { args:=[.list (ns.map .int)] }=true:=by
   have h4:=(holds_andW hc).1
   rw [hn] at h4
   exact h4
  have h5:=condW_of h4 (w_not (w_lt w_lit (w_len_list (w_arg rfl))))
  rw [List.length_map] at h5
  refine Nat.le_of_not_lt fun q=>?_
  have q':(n:Int)<((ns.length:Nat):Int):=by omega
  first
   | (rw [decide_eq_true q'] at h5; exact absurd h5 (by decide))
   | (simp at h5; omega)
 cases hwl with
 | cons w1 w2 =>
  cases w2
  cases w1 with
  | list ho hall=>exact ⟨_,_,ns,rfl,rfl,ho,ints_of_wellAll ns _ hall,hlen⟩
theorem post_true (l:OpenLaw) (args:List WData):l.row.toRowW.claim.post args (.bool true) args=true :=
 postW_of (r:=l.row.toRowW) (X:=(true == true))
  (show WShape.has [] (.bool true) .bool=true by first | rfl | decide | simp [WShape.has,WShape.arms,WShape.armsAll])
  (show (WTm.eq .res (.lit (.bool true))).value [] { args:=args,res:=some (.bool true),after:=args }=some (.bool (true == true)) from w_eq_bool (w_res rfl) w_lit) rfl
theorem attach_call {l:OpenLaw} {n:Nat} {q:Program} {loose:List Str} {XP:(Str->Option Value)->Heap->Prop} {YP:World->Heap->Prop} {d:DefRec}
  (hn:l.most=some n) (hdf:d.params.defaults=[])
  (call:∀ (w:World) (s₀ s₁:Shared) (mg mb:Str->Option Value) (fa:Addr) (o:Obj) (pm cd doc:Value) (a:Addr) (vs:List Value) (ns:List Int),
   Ground q loose [] XP w s₀ mg mb s₁.heap->YP w s₁.heap ->
   s₁.heap.get? fa=some o->o.data=.func (docDef d.name d.params d.body d.scope pm cd doc)->s₁.heap.CodeRec cd d.name->mg d.name=some (.ref fa) ->
   s₁.heap.get? a=some { cls:=.type "list",data:=.seq vs.toArray }->IntsAre vs ns->ns.length<=n->s₁.gens=#[] ->
   codeAny (model l.prog w) callerA (.call (.ref fa) ⟨[.ref a],[]⟩) (fun r s'=>r=.ok (.ret (.bool true))/\OldK s₁.heap s'.heap/\s'.os=s₁.os/\AllBare s'.gens) s₁) :
  WalkO q loose XP YP l.row.toRowW d [] (fun f vs=>PySem.call f vs):=by
 intro w s₀ s₁ mg mb G Y fa o pm cd doc dV kV ho hd hcd hD hmg hg args vals as hpre hlay hrd hwl hlo
 obtain rfl:dV=.none:=Dflts.none hD hdf
 obtain rfl:kV=.none:=Dflts.noKw hD
 obtain ⟨a,vs,ns,rfl,rfl,hobj,hints,hlen⟩:=script_of hn hpre hwl
 refine enter_call (codeAny_mono (call w s₀ s₁ mg mb fa o pm cd doc a vs ns G Y ho (fd_plain hd) hcd hmg hobj hints hlen hg) fun r s' hq=>?_)
 obtain ⟨rfl,h2,h3,h4⟩:=hq
 exact ⟨.inl ⟨.bool true,.bool true,[],rfl,fun _=>rfl,.bool true,post_true l _,fun _=>⟨List.Pairwise.nil,fun _ hm=>(nomatch hm)⟩⟩,h2,h3,h4⟩
section
variable {prog:Program} {w:World} {A:Around} {E:Value->Shared->Prop} {s:Shared} {K:Frag}
end
end Att
namespace L2
open PySem PySem.Spec PyProof.Rows
theorem vals_ints:∀ {vs:List Value} {ns:List Int},IntsAre vs ns->Z9 (ns.map V.int) vs
 | _,_,.nil=>.nil
 | _,_,.cons n t h=>.cons ⟨t,rfl⟩ (vals_ints h)
abbrev CX0:CXT:=fun _ _ _ _ _ _=>False
abbrev E0:XK:=fun _ _ _=>False
theorem pass0 {X:Cx}:Passes CX0 X E0:=fun _ _ _ _ _ _ _ h=>h.elim
structure Fun (K:W.Frag) (x qual:Str) (st:Stmt) (f:Addr) (fd:FuncData):Prop where
 ex:∃ (oc:Value) (od:Option Addr) (kV doc pm:Value) (an:Option Addr) (cdv ct:Value) (osl:Array (Option Value)),
  fd=W.fnOf x qual (defArgs st) (V2 st) (Zf st) .none kV doc pm an cdv ct/\K.lookup f=some ⟨oc,od,.func fd,osl⟩/\W.codeIn K cdv qual=true
 kp:W.keepIn K (.ref f)=true
section
variable {P:Program} {w:World} {K:W.Frag} {mg:Str->Option Value} {base:Heap}
theorem Fun.ok {x qual:Str} {st:Stmt} {f:Addr} {fd:FuncData} {N ps:List Str} {k:Nat} {sp:Sp} (F:Fun K x qual st f fd) (S:Yk N ps (Zf st)) (len:∀ vs H Q E,sp vs H Q E->vs.length=ps.length)
  (hbody:∀ (cdv:Value) (A:Around) (outer:List Env) (s:Shared) (H:Hp) (vs:List V) (Q:VK) (E:XK),Vr k (A.deeper (envOfC qual (Zf st) s.heap.objs.size f cdv))->sp vs H Q E ->
   ∃ t,PSs (cxOf CX0 P w K mg base N qual (Zf st) f cdv A outer s H E).nox (V2 st) t/\t { nx:=fun _ H'=>Q .non H',rt:=Q } (start N vs) H):Y4 P w K mg base CX0 (k+1) f fd ps sp:=by
 obtain ⟨oc,od,kV,doc,pm,an,cdv,ct,osl,rfl,lk,hcd⟩:=F.ex
 refine fn_of lk hcd S len fun A outer s H vs Q E hr hsp=>?_
 obtain ⟨t,h,q⟩:=hbody cdv A outer s H vs Q E hr hsp
 exact ⟨t,h.nox,q⟩
theorem Fun.binds {x qual:Str} {st:Stmt} {f:Addr} {fd:FuncData} {ps:List Str} (F:Fun K x qual st f fd)
  (h:∀ (kV doc pm:Value) (an:Option Addr) (cdv ct:Value) (us:List Value),us.length=ps.length->bindArgs (W.fnOf x qual (defArgs st) (V2 st) (Zf st) .none kV doc pm an cdv ct) ⟨us,[]⟩=pure (ps.zip us)):Binds K fd ps []:=by
 obtain ⟨oc,od,kV,doc,pm,an,cdv,ct,osl,rfl,lk,hcd⟩:=F.ex
 exact .all (h kV doc pm an cdv ct)
theorem Y7 {x qual:Str} {st:Stmt} {f:Addr} {oc:Value} {od an:Option Addr} {osl:Array (Option Value)} {kV doc pm cdv ct:Value} (l:K.lookup f=some ⟨oc,od,.func (W.fnOf x qual (defArgs st) (V2 st) (Zf st) .none kV doc pm an cdv ct),osl⟩)
  (c:W.codeIn K cdv qual=true) (k:W.keepIn K (.ref f)=true):Fun K x qual st f (W.fnOf x qual (defArgs st) (V2 st) (Zf st) .none kV doc pm an cdv ct):=⟨⟨oc,od,kV,doc,pm,an,cdv,ct,osl,rfl,l,c⟩,k⟩
end
theorem hu_of {A:Around} {k:Nat} (hr:Vr k A):A.units+1<cLine:=Nat.lt_of_le_of_lt (Nat.add_le_add_left (by decide:1<=64) _) hr.units
theorem Yq {n:Nat} (h:n<=1000):n<sizeLine:=Nat.lt_of_le_of_lt h (by decide)
theorem sz (n:Nat) (h:n<=sizeLine:=by decide):n<=sizeLine:=h
theorem Vr.m {j k:Nat} {A:Around} (r:Vr k A) (h:j<=k:=by omega):Vr j A:=r.mono h
section
variable {X:Cx}
theorem pv (i:Nat) {x:Str} {pos:Pos} (hN:X.N[i]?=some x:=by rfl) (hv:Vis X.env.scope x:=by first | exact Or.inl rfl | exact Or.inr (Or.inl rfl) | exact Or.inr (Or.inr rfl)) (hd:(x == ("__debug__" : Str))=false:=by decide)
  (hcd:(x == ("__classdict__" : Str))=false:=by decide):PE X (.Name x pos) (tVar i):=pe_var hN hv hd hcd
end
theorem iteF {A B:Prop} (h:B):if false=true then A else B:=by
 rw [if_neg Bool.false_ne_true]
 exact h
theorem iteT {A B:Prop} (h:A):if true=true then A else B:=by
 rw [if_pos rfl]
 exact h
theorem V1 {c A B:Prop} [Decidable c] (h1:c->A) (h2:¬ c->B):if c then A else B:=by
 by_cases h:c
 ·rw [if_pos h]
  exact h1 h
 ·rw [if_neg h]
  exact h2 h
def Zv (H H':Hp):Prop:=∀ b o,H b=some o->H' b=some o
theorem Zv.refl (H:Hp):Zv H H:=fun _ _ h=>h
theorem Zv.trans {H H1 H2:Hp} (a:Zv H H1) (b:Zv H1 H2):Zv H H2:=fun c o h=>b c o (a c o h)
theorem Zv.free {H H':Hp} (e:Zv H H') {l:Addr} (h:H' l=Option.none):H l=Option.none:=by
 cases q:H l with
 | none=>rfl
 | some o =>
  rw [e l o q] at h
  cases h
theorem Zv.seq {K:W.Frag} {H H':Hp} {a:Addr} {xs:List V} (e:Zv H H') (h:Z0 K H a xs):Z0 K H' a xs:=by
 rcases h with (h | ⟨o,h⟩) | h
 ·exact .inl (.inl (e _ _ h))
 ·exact .inl (.inr ⟨o,e _ _ h⟩)
 ·exact .inr h
inductive D where
 | non | bl (b:Bool) | int (i:Int) | str (x:Str) | tup (xs:List D) | lst (xs:List D)
mutual
def Vu (K:W.Frag) (H:Hp):D->V->Prop
 | .non,v=>v=.non
 | .bl b,v=>v=.bl b
 | .int i,v=>v=.int i
 | .str x,v=>v=.str x
 | .tup ds,v=>∃ a vs,v=.ref a/\Z6 K H a vs/\Yd K H ds vs
 | .lst ds,v=>∃ a vs,v=.ref a/\Z0 K H a vs/\Yd K H ds vs
def Yd (K:W.Frag) (H:Hp):List D->List V->Prop
 | [],vs=>vs=[]
 | d::ds,vs=>∃ v r,vs=v::r/\Vu K H d v/\Yd K H ds r
end
mutual
def eqD:D->D->Bool
 | .non,.non=>true
 | .bl a,.bl b=>a == b
 | .bl a,.int b=>(if a then 1 else 0) == b
 | .int a,.bl b=>a == (if b then 1 else 0)
 | .int a,.int b=>a == b
 | .str a,.str b=>a == b
 | .tup xs,.tup ys=>eqDs xs ys
 | .lst xs,.lst ys=>eqDs xs ys
 | _,_=>false
def eqDs:List D->List D->Bool
 | [],[]=>true
 | x::xs,y::ys=>eqD x y && eqDs xs ys
 | _,_=>false
end
mutual
def dpD:D->Nat
 | .tup xs=>dpDs xs+1
 | .lst xs=>dpDs xs+1
 | _=>0
def dpDs:List D->Nat
 | []=>0
 | d::ds=>max (dpD d) (dpDs ds)
end
mutual
theorem eqD_refl:∀ d:D,eqD d d=true
 | .non=>rfl
 | .bl b=>by simp [eqD]
 | .int b=>by simp [eqD]
 | .str b=>by simp [eqD]
 | .tup xs=>by simp only [eqD]; exact eqDs_refl xs
 | .lst xs=>by simp only [eqD]; exact eqDs_refl xs
theorem eqDs_refl:∀ d:List D,eqDs d d=true
 | []=>rfl
 | x::xs=>by simp only [eqDs,eqD_refl x,eqDs_refl xs,Bool.and_self]
end
theorem Yd.length {K:W.Frag} {H:Hp}:∀ {ds:List D} {vs:List V},Yd K H ds vs->ds.length=vs.length
 | [],vs,h=>by
  have e:vs=[]:=h
  subst e
  rfl
 | d::ds,vs,h=>by
  obtain ⟨v,r,e,_,h2⟩:=(show ∃ v r,vs=v::r/\Vu K H d v/\Yd K H ds r from h)
  rw [e,List.length_cons,List.length_cons,Yd.length h2]
theorem Yd.get {K:W.Frag} {H:Hp}:∀ {ds:List D} {vs:List V} {i:Nat} {d:D},Yd K H ds vs->ds[i]?=some d->∃ v,vs[i]?=some v/\Vu K H d v
 | [],vs,i,d,_,e=>by simp at e
 | d::ds,vs,0,d',h,e=>by
  obtain ⟨v,r,rfl,h1,_⟩:=(show ∃ v r,vs=v::r/\Vu K H d v/\Yd K H ds r from h)
  simp at e; subst e
  exact ⟨v,rfl,h1⟩
 | d::ds,vs,i+1,d',h,e=>by
  obtain ⟨v,r,rfl,_,h2⟩:=(show ∃ v r,vs=v::r/\Vu K H d v/\Yd K H ds r from h)
  obtain ⟨v',e1,h3⟩:=Yd.get (i:=i) h2 (by simpa using e)
  exact ⟨v',by simpa using e1,h3⟩
theorem dpDs_mem:∀ {ds:List D} {d:D},d∈ds->dpD d<=dpDs ds
 | d::ds,d',h=>by
  simp only [dpDs]
  rcases List.mem_cons.mp h with e | h
  ·subst e; omega
  ·have:=dpDs_mem h; omega
theorem Vd:∀ ds es:List D,((List.range (min ds.length es.length)).all (fun j=>eqD (ds.getD j .non) (es.getD j .non)) && ds.length == es.length)=eqDs ds es
 | [],[]=>rfl
 | [],e::es=>by simp [eqDs]
 | d::ds,[]=>by simp [eqDs]
 | d::ds,e::es=>by
  have ih:=Vd ds es
  have e1:min (d::ds).length (e::es).length=min ds.length es.length+1:=by simp only [List.length_cons]; omega
  rw [e1,List.range_succ_eq_map]
  simp only [List.all_cons,List.all_map,eqDs, <-ih,List.length_cons,List.getD_cons_zero]
  have e2:((ds.length+1 == es.length+1):Bool)=(ds.length == es.length):=by
   rw [Bool.eq_iff_iff]; simp
  rw [e2,Bool.and_assoc]
  rfl
section
variable {X:Cx} {pins:List (Addr × Obj)} {σ:St} {H:Hp} {s:Shared}
theorem Zs.not_both (I:Zs X pins σ H s) {a:Addr} {xs ys:List V} (h:Z0 X.K H a xs) (h':Z6 X.K H a ys):False:=by
 obtain ⟨its,r,⟨o,n,e,c,_⟩,_⟩:=I.list h
 obtain ⟨its',r',⟨o',e',c',_⟩,_⟩:=I.tuple h'
 rw [e] at e'; cases e'
 rw [c] at c'
 injection c' with c''
 exact absurd c'' (by decide)
mutual
theorem Vu.inj (I:Zs X pins σ H s):∀ (d e:D) (v:V),Vu X.K H d v->Vu X.K H e v->d=e
 | .non,e,v,h,h'=>by
  have q:v=.non:=h
  subst q
  cases e with
  | non=>rfl
  | tup _=>obtain ⟨_,_,z,_⟩:=h'; cases z
  | lst _=>obtain ⟨_,_,z,_⟩:=h'; cases z
  | _=>cases (show V.non=_ from h')
 | .bl b,e,v,h,h'=>by
  have q:v=.bl b:=h
  subst q
  cases e with
  | bl c=>cases (show V.bl b=V.bl c from h'); rfl
  | tup _=>obtain ⟨_,_,z,_⟩:=h'; cases z
  | lst _=>obtain ⟨_,_,z,_⟩:=h'; cases z
  | _=>cases (show V.bl b=_ from h')
 | .int b,e,v,h,h'=>by
  have q:v=.int b:=h
  subst q
  cases e with
  | int c=>cases (show V.int b=V.int c from h'); rfl
  | tup _=>obtain ⟨_,_,z,_⟩:=h'; cases z
  | lst _=>obtain ⟨_,_,z,_⟩:=h'; cases z
  | _=>cases (show V.int b=_ from h')
 | .str b,e,v,h,h'=>by
  have q:v=.str b:=h
  subst q
  cases e with
  | str c=>cases (show V.str b=V.str c from h'); rfl
  | tup _=>obtain ⟨_,_,z,_⟩:=h'; cases z
  | lst _=>obtain ⟨_,_,z,_⟩:=h'; cases z
  | _=>cases (show V.str b=_ from h')
 | .tup ds,e,v,h,h'=>by
  obtain ⟨a,vs,rfl,q,ar⟩:=(show ∃ a vs,v=.ref a/\Z6 X.K H a vs/\Yd X.K H ds vs from h)
  cases e with
  | tup es =>
   obtain ⟨a',ws,z,q',ar'⟩:=(show ∃ a' vs,V.ref a=.ref a'/\Z6 X.K H a' vs/\Yd X.K H es vs from h')
   cases z
   have e:=I.tuple_inj q q'
   subst e
   rw [Yd.inj I ds es vs ar ar']
  | lst es =>
   obtain ⟨a',ws,z,q',ar'⟩:=(show ∃ a' vs,V.ref a=.ref a'/\Z0 X.K H a' vs/\Yd X.K H es vs from h')
   cases z
   exact (I.not_both q' q).elim
  | non=>cases (show V.ref a=_ from h')
  | bl _=>cases (show V.ref a=_ from h')
  | int _=>cases (show V.ref a=_ from h')
  | str _=>cases (show V.ref a=_ from h')
 | .lst ds,e,v,h,h'=>by
  obtain ⟨a,vs,rfl,q,ar⟩:=(show ∃ a vs,v=.ref a/\Z0 X.K H a vs/\Yd X.K H ds vs from h)
  cases e with
  | lst es =>
   obtain ⟨a',ws,z,q',ar'⟩:=(show ∃ a' vs,V.ref a=.ref a'/\Z0 X.K H a' vs/\Yd X.K H es vs from h')
   cases z
   have e:=I.list_inj q q'
   subst e
   rw [Yd.inj I ds es vs ar ar']
  | tup es =>
   obtain ⟨a',ws,z,q',ar'⟩:=(show ∃ a' vs,V.ref a=.ref a'/\Z6 X.K H a' vs/\Yd X.K H es vs from h')
   cases z
   exact (I.not_both q q').elim
  | non=>cases (show V.ref a=_ from h')
  | bl _=>cases (show V.ref a=_ from h')
  | int _=>cases (show V.ref a=_ from h')
  | str _=>cases (show V.ref a=_ from h')
theorem Yd.inj (I:Zs X pins σ H s):∀ (ds es:List D) (vs:List V),Yd X.K H ds vs->Yd X.K H es vs->ds=es
 | [],es,vs,h,h'=>by
  have q:vs=[]:=h
  subst q
  cases es with
  | nil=>rfl
  | cons e es=>obtain ⟨_,_,z,_⟩:=h'; cases z
 | d::ds,es,vs,h,h'=>by
  obtain ⟨v,r,rfl,h1,h2⟩:=(show ∃ v r,vs=v::r/\Vu X.K H d v/\Yd X.K H ds r from h)
  cases es with
  | nil=>cases (show v::r=[] from h')
  | cons e es =>
   obtain ⟨v',r',z,h1',h2'⟩:=(show ∃ v' r',v::r=v'::r'/\Vu X.K H e v'/\Yd X.K H es r' from h')
   cases z
   rw [Vu.inj I d e v h1 h1',Yd.inj I ds es r h2 h2']
end
def flD:D->Option V
 | .non=>some .non
 | .bl b=>some (.bl b)
 | .int i=>some (.int i)
 | .str x=>some (.str x)
 | _=>none
theorem Vu.flat {K:W.Frag} {d:D} {x v:V} (e:flD d=some x) (h:Vu K H d v):v=x/\flatV x=true:=by
 cases d with
 | non=>cases e; exact ⟨h,rfl⟩
 | bl b=>cases e; exact ⟨h,rfl⟩
 | int i=>cases e; exact ⟨h,rfl⟩
 | str q=>cases e; exact ⟨h,rfl⟩
 | tup q=>cases e
 | lst q=>cases e
theorem flD_cases {d:D} {x:V} (h:flD d=some x):(d=.non/\x=.non)\/(∃ b,d=.bl b/\x=.bl b)\/(∃ i,d=.int i/\x=.int i)\/∃ q,d=.str q/\x=.str q:=by
 cases d with
 | non=>cases h; exact .inl ⟨rfl,rfl⟩
 | bl b=>cases h; exact .inr (.inl ⟨b,rfl,rfl⟩)
 | int i=>cases h; exact .inr (.inr (.inl ⟨i,rfl,rfl⟩))
 | str q=>cases h; exact .inr (.inr (.inr ⟨q,rfl,rfl⟩))
 | tup q=>cases h
 | lst q=>cases h
theorem eqD_flat {d e:D} {x y:V} (h:flD d=some x) (h':flD e=some y):eqD d e=eqV x y:=by
 rcases flD_cases h with ⟨rfl,rfl⟩ | ⟨_,rfl,rfl⟩ | ⟨_,rfl,rfl⟩ | ⟨_,rfl,rfl⟩ <;> rcases flD_cases h' with ⟨rfl,rfl⟩ | ⟨_,rfl,rfl⟩ | ⟨_,rfl,rfl⟩ | ⟨_,rfl,rfl⟩ <;> rfl
theorem Yi {xs:List V} {us:List Value} (r:Z9 xs us) {j:Nat} (h:j<us.length) {x:V} (e:xs[j]?=some x):Z2 x us[j]:=by
 obtain ⟨u,e1,q⟩:=r.get e
 rw [List.getElem?_eq_getElem h] at e1
 cases e1
 exact q
theorem eqAt_fT {es:List D} {a:Addr} {x:V} {u:Value} {A:Around} {its:Array Value} {d:D} (h:flD d=some x) (rx:Z2 x u) (ht:IsTup s.heap a its) (hu2:A.units<cLine):SeqAt.EqAt A s u (.ref a) (eqD d (.tup es)):=by
 rcases flD_cases h with ⟨rfl,rfl⟩ | ⟨b,rfl,rfl⟩ | ⟨b,rfl,rfl⟩ | ⟨b,rfl,rfl⟩
 ·cases rx; exact SeqAt.EqAt.none_tuple ht hu2
 ·cases rx; exact SeqAt.EqAt.bool_tuple b ht hu2
 ·obtain ⟨t,rfl⟩:=rx; exact SeqAt.EqAt.int_tuple b t ht hu2
 ·obtain ⟨t,rfl⟩:=rx; exact SeqAt.EqAt.str_tuple b t ht hu2
theorem eqAt_fL {es:List D} {a:Addr} {x:V} {u:Value} {A:Around} {its:Array Value} {d:D} (h:flD d=some x) (rx:Z2 x u) (ht:s.heap.IsList a its) (hu2:A.units<cLine):SeqAt.EqAt A s u (.ref a) (eqD d (.lst es)):=by
 rcases flD_cases h with ⟨rfl,rfl⟩ | ⟨b,rfl,rfl⟩ | ⟨b,rfl,rfl⟩ | ⟨b,rfl,rfl⟩
 ·cases rx; exact SeqAt.EqAt.none_list ht hu2
 ·cases rx; exact SeqAt.EqAt.bool_list b ht hu2
 ·obtain ⟨t,rfl⟩:=rx; exact SeqAt.EqAt.int_list b t ht hu2
 ·obtain ⟨t,rfl⟩:=rx; exact SeqAt.EqAt.str_list b t ht hu2
theorem eqAt_Tf {es:List D} {a:Addr} {x:V} {u:Value} {A:Around} {its:Array Value} {d:D} (h:flD d=some x) (rx:Z2 x u) (ht:IsTup s.heap a its) (hu2:A.units<cLine):SeqAt.EqAt A s (.ref a) u (eqD (.tup es) d):=by
 rcases flD_cases h with ⟨rfl,rfl⟩ | ⟨b,rfl,rfl⟩ | ⟨b,rfl,rfl⟩ | ⟨b,rfl,rfl⟩
 ·cases rx; exact SeqAt.EqAt.tuple_none ht hu2
 ·cases rx; exact SeqAt.EqAt.tuple_bool b ht hu2
 ·obtain ⟨t,rfl⟩:=rx; exact SeqAt.EqAt.tuple_int b t ht hu2
 ·obtain ⟨t,rfl⟩:=rx; exact SeqAt.EqAt.tuple_str b t ht hu2
theorem eqAt_Lf {es:List D} {a:Addr} {x:V} {u:Value} {A:Around} {its:Array Value} {d:D} (h:flD d=some x) (rx:Z2 x u) (ht:s.heap.IsList a its) (hu2:A.units<cLine):SeqAt.EqAt A s (.ref a) u (eqD (.lst es) d):=by
 rcases flD_cases h with ⟨rfl,rfl⟩ | ⟨b,rfl,rfl⟩ | ⟨b,rfl,rfl⟩ | ⟨b,rfl,rfl⟩
 ·cases rx; exact SeqAt.EqAt.list_none ht hu2
 ·cases rx; exact SeqAt.EqAt.list_bool b ht hu2
 ·obtain ⟨t,rfl⟩:=rx; exact SeqAt.EqAt.list_int b t ht hu2
 ·obtain ⟨t,rfl⟩:=rx; exact SeqAt.EqAt.list_str b t ht hu2
theorem flD_none {d:D} (h:flD d=none):(∃ ds,d=.tup ds)\/∃ ds,d=.lst ds:=by
 cases d with
 | non=>cases h
 | bl b=>cases h
 | int i=>cases h
 | str q=>cases h
 | tup q=>exact .inl ⟨q,rfl⟩
 | lst q=>exact .inr ⟨q,rfl⟩
def EqIn (A:Around) (s:Shared) (K:W.Frag) (H:Hp) (ds:List D):Prop:=∀ d∈ds,∀ (e:D) (x y:V) (u v:Value),Vu K H d x->Vu K H e y->Z2 x u->Z2 y v->SeqAt.EqAt A s u v (eqD d e)
theorem EqIn.at {A:Around} {K:W.Frag} {ds es:List D} {vs vs':List V} {its its':List Value} (E:EqIn A s K H ds) (ar:Yd K H ds vs) (ar':Yd K H es vs') (r:Z9 vs its) (r':Z9 vs' its') {j:Nat} (h1:j<its.toArray.size) (h2:j<its'.toArray.size) (j1:j<ds.length) (j2:j<es.length) :
  SeqAt.EqAt A s its.toArray[j] its'.toArray[j] (eqD (ds.getD j .non) (es.getD j .non)):=by
 obtain ⟨x1,g1,i1⟩:=ar.get (List.getElem?_eq_getElem j1)
 obtain ⟨y1,g2,i2⟩:=ar'.get (List.getElem?_eq_getElem j2)
 have d1:ds.getD j .non=ds[j]:=by simp [j1]
 have d2:es.getD j .non=es[j]:=by simp [j2]
 rw [d1,d2]
 exact E _ (List.getElem_mem j1) _ x1 y1 _ _ i1 i2 (Yi r (by simpa using h1) g1) (Yi r' (by simpa using h2) g2)
theorem eqAt_TT (I:Zs X pins σ H s) {ds es:List D} {a a':Addr} {vs vs':List V} {A:Around} (q:Z6 X.K H a vs) (ar:Yd X.K H ds vs) (q':Z6 X.K H a' vs') (ar':Yd X.K H es vs') (hne:a≠a') (E:EqIn A.in1 s X.K H ds) (hu2:A.units<cLine) :
  SeqAt.EqAt A s (.ref a) (.ref a') (eqD (.tup ds) (.tup es)):=by
 obtain ⟨its,r,ht,_⟩:=I.tuple q
 obtain ⟨its',r',ht',_⟩:=I.tuple q'
 have l1:its.toArray.size=ds.length:=by rw [List.size_toArray, <-r.length, <-ar.length]
 have l2:its'.toArray.size=es.length:=by rw [List.size_toArray, <-r'.length, <-ar'.length]
 have main:=SeqAt.RcAt.tuples (A:=A) (e:=fun j=>eqD (ds.getD j .non) (es.getD j .non)) ht ht' hu2 (fun j h1 h2=>E.at ar ar' r r' h1 h2 (by omega) (by omega))
 rw [l1,l2,Vd] at main
 exact SeqAt.EqAt.of_refs hne main
theorem eqAt_LL (I:Zs X pins σ H s) {ds es:List D} {a a':Addr} {vs vs':List V} {A:Around} (q:Z0 X.K H a vs) (ar:Yd X.K H ds vs) (q':Z0 X.K H a' vs') (ar':Yd X.K H es vs') (hne:a≠a') (E:EqIn A.in1 s X.K H ds) (hu2:A.units<cLine) :
  SeqAt.EqAt A s (.ref a) (.ref a') (eqD (.lst ds) (.lst es)):=by
 obtain ⟨its,r,hp,_⟩:=I.list q
 obtain ⟨its',r',hp',_⟩:=I.list q'
 have l1:its.toArray.size=ds.length:=by rw [List.size_toArray, <-r.length, <-ar.length]
 have l2:its'.toArray.size=es.length:=by rw [List.size_toArray, <-r'.length, <-ar'.length]
 by_cases hl:ds.length=es.length
 ·have main:=SeqAt.RcAt.lists (A:=A) (e:=fun j=>eqD (ds.getD j .non) (es.getD j .non)) hp.isList hp'.isList (by omega) hu2 (fun j h1 h2=>E.at ar ar' r r' h1 h2 (by omega) (by omega))
  have al:=Vd ds es
  rw [<-hl,Nat.min_self,beq_self_eq_true,Bool.and_true] at al
  rw [l1,al] at main
  exact SeqAt.EqAt.of_refs hne main
 ·have main:=SeqAt.RcAt.lists_lengths (A:=A) hp.isList hp'.isList (by rw [l1,l2]; simpa using hl) hu2
  have al:=Vd ds es
  have hf:(ds.length == es.length)=false:=by simpa using hl
  rw [hf,Bool.and_false] at al
  have z:eqD (D.lst ds) (D.lst es)=eqDs ds es:=by simp only [eqD]
  rw [z, <-al]
  exact SeqAt.EqAt.of_refs hne main
theorem eqAt_refs (I:Zs X pins σ H s) {d e:D} {x y:V} {u v:Value} {A:Around} (hfd:flD d=none) (hfe:flD e=none) (hd:Vu X.K H d x) (he:Vu X.K H e y) (rx:Z2 x u) (ry:Z2 y v) (E:∀ ds,d=.tup ds\/d=.lst ds->EqIn A.in1 s X.K H ds) (hu2:A.units<cLine) :
  SeqAt.EqAt A s u v (eqD d e):=by
 by_cases hxy:x=y
 ·subst hxy
  have ee:=Vu.inj I d e x hd he
  subst ee
  rw [eqD_refl]
  have uv:u=v:=by
   rcases flD_none hfd with ⟨ds,rfl⟩ | ⟨ds,rfl⟩
   ·obtain ⟨a,_,rfl,_⟩:=hd; cases rx; cases ry; rfl
   ·obtain ⟨a,_,rfl,_⟩:=hd; cases rx; cases ry; rfl
  subst uv
  exact SeqAt.EqAt.same _
 ·rcases flD_none hfd with ⟨ds,rfl⟩ | ⟨ds,rfl⟩
  ·obtain ⟨a,vs,rfl,q,ar⟩:=hd
   cases rx
   rcases flD_none hfe with ⟨es,rfl⟩ | ⟨es,rfl⟩
   ·obtain ⟨a',vs',rfl,q',ar'⟩:=he
    cases ry
    exact eqAt_TT I q ar q' ar' (fun z=>hxy (by rw [z])) (E ds (.inl rfl)) hu2
   ·obtain ⟨a',vs',rfl,q',ar'⟩:=he
    cases ry
    obtain ⟨_,_,ht,_⟩:=I.tuple q
    obtain ⟨_,_,hp',_⟩:=I.list q'
    exact SeqAt.EqAt.tuple_list ht hp'.isList hu2
  ·obtain ⟨a,vs,rfl,q,ar⟩:=hd
   cases rx
   rcases flD_none hfe with ⟨es,rfl⟩ | ⟨es,rfl⟩
   ·obtain ⟨a',vs',rfl,q',ar'⟩:=he
    cases ry
    obtain ⟨_,_,hp,_⟩:=I.list q
    obtain ⟨_,_,ht',_⟩:=I.tuple q'
    exact SeqAt.EqAt.list_tuple hp.isList ht' hu2
   ·obtain ⟨a',vs',rfl,q',ar'⟩:=he
    cases ry
    exact eqAt_LL I q ar q' ar' (fun z=>hxy (by rw [z])) (E ds (.inr rfl)) hu2
theorem eqAt_step (I:Zs X pins σ H s) {d e:D} {x y:V} {u v:Value} {A:Around} (hd:Vu X.K H d x) (he:Vu X.K H e y) (rx:Z2 x u) (ry:Z2 y v) (E:∀ ds,d=.tup ds\/d=.lst ds->EqIn A.in1 s X.K H ds) (hu2:A.units<cLine) :
  SeqAt.EqAt A s u v (eqD d e):=by
 cases hfd:flD d with
 | some x' =>
  obtain ⟨rfl,fx⟩:=Vu.flat hfd hd
  cases hfe:flD e with
  | some y' =>
   obtain ⟨rfl,fy⟩:=Vu.flat hfe he
   rw [eqD_flat hfd hfe]
   exact eqAt_V rx ry fx fy
  | none =>
   rcases flD_none hfe with ⟨es,rfl⟩ | ⟨es,rfl⟩
   ·obtain ⟨a,vs,rfl,q,_⟩:=he
    cases ry
    obtain ⟨its,_,ht,_⟩:=I.tuple q
    exact eqAt_fT hfd rx ht hu2
   ·obtain ⟨a,vs,rfl,q,_⟩:=he
    cases ry
    obtain ⟨its,_,hp,_⟩:=I.list q
    exact eqAt_fL hfd rx hp.isList hu2
 | none =>
  cases hfe:flD e with
  | some y' =>
   obtain ⟨rfl,fy⟩:=Vu.flat hfe he
   rcases flD_none hfd with ⟨es,rfl⟩ | ⟨es,rfl⟩
   ·obtain ⟨a,vs,rfl,q,_⟩:=hd
    cases rx
    obtain ⟨its,_,ht,_⟩:=I.tuple q
    exact eqAt_Tf hfe ry ht hu2
   ·obtain ⟨a,vs,rfl,q,_⟩:=hd
    cases rx
    obtain ⟨its,_,hp,_⟩:=I.list q
    exact eqAt_Lf hfe ry hp.isList hu2
  | none=>exact eqAt_refs I hfd hfe hd he rx ry E hu2
theorem dpD_parts {d:D} {ds:List D} (h:d=.tup ds\/d=.lst ds) {c:D} (m:c∈ds):dpD c+1<=dpD d:=by
 have:=dpDs_mem m
 rcases h with rfl | rfl
 ·have z:dpD (D.tup ds)=dpDs ds+1:=by simp only [dpD]
  omega
 ·have z:dpD (D.lst ds)=dpDs ds+1:=by simp only [dpD]
  omega
theorem eqAt_Dn (I:Zs X pins σ H s) (n:Nat):∀ (A:Around) (d e:D) (x y:V) (u v:Value),dpD d<n->Vu X.K H d x->Vu X.K H e y->Z2 x u->Z2 y v->A.units+dpD d<cLine->SeqAt.EqAt A s u v (eqD d e):=by
 induction n with
 | zero=>intro A d e x y u v h; exact absurd h (Nat.not_lt_zero _)
 | succ n ih =>
  intro A d e x y u v h hd he rx ry hu
  refine eqAt_step I hd he rx ry (fun ds hds c hc e' x' y' u' v' h1 h2 r1 r2=>?_) (by omega)
  have hp:=dpD_parts hds hc
  refine ih A.in1 c e' x' y' u' v' (by omega) h1 h2 r1 r2 ?_
  show A.units+1+dpD c<cLine
  omega
theorem eqAt_D (I:Zs X pins σ H s) (d e:D) (x y:V) (u v:Value) (A:Around) (hd:Vu X.K H d x) (he:Vu X.K H e y) (rx:Z2 x u) (ry:Z2 y v) (hu:A.units+dpD d<cLine) (hu2:A.units<cLine) :
  SeqAt.EqAt A s u v (eqD d e):=eqAt_Dn I (dpD d+1) A d e x y u v (Nat.lt_succ_self _) hd he rx ry hu
end
theorem rcEq_V {A:Around} {s:Shared} {y x:V} {u v:Value} (ry:Z2 y u) (rx:Z2 x v) (fy:flatV y=true) (fx:flatV x=true):SeqAt.RcAt A s u v ((eqV y x)):=by
 cases y with
 | non =>
  cases ry
  cases x with
  | non=>cases rx; exact SeqAt.RcAt.none_none
  | bl b=>cases rx; exact SeqAt.RcAt.none_bool b
  | int b=>obtain ⟨t,rfl⟩:=rx; exact SeqAt.RcAt.none_int b t
  | str b=>obtain ⟨t,rfl⟩:=rx; exact SeqAt.RcAt.none_str b t
  | _=>exact absurd (show false=true from fx) Bool.false_ne_true
 | bl a =>
  cases ry
  cases x with
  | non=>cases rx; exact SeqAt.RcAt.bool_none a
  | bl b=>cases rx; exact SeqAt.RcAt.bool_bool a b
  | int b=>obtain ⟨t,rfl⟩:=rx; exact SeqAt.RcAt.bool_int a b t
  | str b=>obtain ⟨t,rfl⟩:=rx; exact SeqAt.RcAt.bool_str a b t
  | _=>exact absurd (show false=true from fx) Bool.false_ne_true
 | int a =>
  obtain ⟨t',rfl⟩:=ry
  cases x with
  | non=>cases rx; exact SeqAt.RcAt.int_none a t'
  | bl b=>cases rx; exact SeqAt.RcAt.int_bool a t' b
  | int b=>obtain ⟨t,rfl⟩:=rx; exact SeqAt.RcAt.int_int a t' b t
  | str b=>obtain ⟨t,rfl⟩:=rx; exact SeqAt.RcAt.int_str a t' b t
  | _=>exact absurd (show false=true from fx) Bool.false_ne_true
 | str a =>
  obtain ⟨t',rfl⟩:=ry
  cases x with
  | non=>cases rx; exact SeqAt.RcAt.str_none a t'
  | bl b=>cases rx; exact SeqAt.RcAt.str_bool a t' b
  | int b=>obtain ⟨t,rfl⟩:=rx; exact SeqAt.RcAt.str_int a t' b t
  | str b=>obtain ⟨t,rfl⟩:=rx; exact SeqAt.RcAt.str_str a t' b t
  | _=>exact absurd (show false=true from fx) Bool.false_ne_true
 | _=>exact absurd (show false=true from fy) Bool.false_ne_true
theorem rcEq_D {X:Cx} {pins:List (Addr × Obj)} {σ:St} {H:Hp} {s:Shared} (I:Zs X pins σ H s) (d e:D) (x y:V) (u v:Value) (A:Around) (hd:Vu X.K H d x) (he:Vu X.K H e y) (rx:Z2 x u) (ry:Z2 y v) (hu:A.units+dpD d<cLine) (hu2:A.units<cLine) :
  SeqAt.RcAt A s u v ((eqD d e)):=by
 cases hfd:flD d with
 | some x' =>
  obtain ⟨rfl,fx⟩:=Vu.flat hfd hd
  cases hfe:flD e with
  | some y' =>
   obtain ⟨rfl,fy⟩:=Vu.flat hfe he
   rw [eqD_flat hfd hfe]
   exact rcEq_V rx ry fx fy
  | none =>
   cases e with
   | tup es =>
    obtain ⟨a,vs,rfl,q,_⟩:=he
    cases ry
    obtain ⟨its,_,ht,_⟩:=I.tuple q
    cases d with
    | non=>cases hfd; cases rx; exact SeqAt.RcAt.none_tuple ht hu2
    | bl b=>cases hfd; cases rx; exact SeqAt.RcAt.bool_tuple b ht hu2
    | int b=>cases hfd; obtain ⟨t,rfl⟩:=rx; exact SeqAt.RcAt.int_tuple b t ht hu2
    | str b=>cases hfd; obtain ⟨t,rfl⟩:=rx; exact SeqAt.RcAt.str_tuple b t ht hu2
    | tup _=>cases hfd
    | lst _=>cases hfd
   | lst es =>
    obtain ⟨a,vs,rfl,q,_⟩:=he
    cases ry
    obtain ⟨its,_,hp,_⟩:=I.list q
    have ht:=hp.isList
    cases d with
    | non=>cases hfd; cases rx; exact SeqAt.RcAt.none_list ht hu2
    | bl b=>cases hfd; cases rx; exact SeqAt.RcAt.bool_list b ht hu2
    | int b=>cases hfd; obtain ⟨t,rfl⟩:=rx; exact SeqAt.RcAt.int_list b t ht hu2
    | str b=>cases hfd; obtain ⟨t,rfl⟩:=rx; exact SeqAt.RcAt.str_list b t ht hu2
    | tup _=>cases hfd
    | lst _=>cases hfd
   | non=>cases hfe
   | bl _=>cases hfe
   | int _=>cases hfe
   | str _=>cases hfe
 | none =>
  cases hfe:flD e with
  | some y' =>
   obtain ⟨rfl,fy⟩:=Vu.flat hfe he
   cases d with
   | tup es =>
    obtain ⟨a,vs,rfl,q,_⟩:=hd
    cases rx
    obtain ⟨its,_,ht,_⟩:=I.tuple q
    cases e with
    | non=>cases hfe; cases ry; exact SeqAt.RcAt.tuple_none ht hu2
    | bl b=>cases hfe; cases ry; exact SeqAt.RcAt.tuple_bool b ht hu2
    | int b=>cases hfe; obtain ⟨t,rfl⟩:=ry; exact SeqAt.RcAt.tuple_int b t ht hu2
    | str b=>cases hfe; obtain ⟨t,rfl⟩:=ry; exact SeqAt.RcAt.tuple_str b t ht hu2
    | tup _=>cases hfe
    | lst _=>cases hfe
   | lst es =>
    obtain ⟨a,vs,rfl,q,_⟩:=hd
    cases rx
    obtain ⟨its,_,hp,_⟩:=I.list q
    have ht:=hp.isList
    cases e with
    | non=>cases hfe; cases ry; exact SeqAt.RcAt.list_none ht hu2
    | bl b=>cases hfe; cases ry; exact SeqAt.RcAt.list_bool b ht hu2
    | int b=>cases hfe; obtain ⟨t,rfl⟩:=ry; exact SeqAt.RcAt.list_int b t ht hu2
    | str b=>cases hfe; obtain ⟨t,rfl⟩:=ry; exact SeqAt.RcAt.list_str b t ht hu2
    | tup _=>cases hfe
    | lst _=>cases hfe
   | non=>cases hfd
   | bl _=>cases hfd
   | int _=>cases hfd
   | str _=>cases hfd
  | none =>
   cases d with
   | tup ds =>
    obtain ⟨a,vs,rfl,q,ar⟩:=hd
    cases rx
    obtain ⟨its,r,ht,_⟩:=I.tuple q
    cases e with
    | tup es =>
     obtain ⟨a',vs',rfl,q',ar'⟩:=he
     cases ry
     obtain ⟨its',r',ht',_⟩:=I.tuple q'
     have l1:its.toArray.size=ds.length:=by rw [List.size_toArray, <-r.length, <-ar.length]
     have l2:its'.toArray.size=es.length:=by rw [List.size_toArray, <-r'.length, <-ar'.length]
     have main:=SeqAt.RcAt.tuples (A:=A) (e:=fun j=>eqD (ds.getD j .non) (es.getD j .non)) ht ht' hu2 (fun j h1 h2=>by
       have j1:j<ds.length:=by omega
       have j2:j<es.length:=by omega
       have e1:ds[j]?=some ds[j]:=List.getElem?_eq_getElem j1
       have e2:es[j]?=some es[j]:=List.getElem?_eq_getElem j2
       obtain ⟨x1,g1,i1⟩:=ar.get e1
       obtain ⟨y1,g2,i2⟩:=ar'.get e2
       have d1:ds.getD j .non=ds[j]:=by simp [j1]
       have d2:es.getD j .non=es[j]:=by simp [j2]
       show SeqAt.EqAt A.in1 s _ _ (eqD (ds.getD j .non) (es.getD j .non))
       rw [d1,d2]
       have hm:=dpDs_mem (List.getElem_mem j1)
       have z1:dpD (D.tup ds)=dpDs ds+1:=by simp only [dpD]
       refine eqAt_D I ds[j] es[j] x1 y1 _ _ A.in1 i1 i2 (Yi r (by simpa using h1) g1) (Yi r' (by simpa using h2) g2) ?_ ?_
       ·show A.units+1+dpD ds[j]<cLine
        omega
       ·show A.units+1<cLine
        omega)
     rw [l1,l2,Vd] at main
     exact main
    | lst es =>
     obtain ⟨a',vs',rfl,q',ar'⟩:=he
     cases ry
     obtain ⟨its',r',hp',_⟩:=I.list q'
     exact SeqAt.RcAt.tuple_list ht hp'.isList hu2
    | non=>cases hfe
    | bl _=>cases hfe
    | int _=>cases hfe
    | str _=>cases hfe
   | lst ds =>
    obtain ⟨a,vs,rfl,q,ar⟩:=hd
    cases rx
    obtain ⟨its,r,hp,_⟩:=I.list q
    have ht:=hp.isList
    cases e with
    | lst es =>
     obtain ⟨a',vs',rfl,q',ar'⟩:=he
     cases ry
     obtain ⟨its',r',hp',_⟩:=I.list q'
     have ht':=hp'.isList
     have l1:its.toArray.size=ds.length:=by rw [List.size_toArray, <-r.length, <-ar.length]
     have l2:its'.toArray.size=es.length:=by rw [List.size_toArray, <-r'.length, <-ar'.length]
     by_cases hl:ds.length=es.length
     ·have main:=SeqAt.RcAt.lists (A:=A) (e:=fun j=>eqD (ds.getD j .non) (es.getD j .non)) ht ht' (by omega) hu2 (fun j h1 h2=>by
       have j1:j<ds.length:=by omega
       have j2:j<es.length:=by omega
       have e1:ds[j]?=some ds[j]:=List.getElem?_eq_getElem j1
       have e2:es[j]?=some es[j]:=List.getElem?_eq_getElem j2
       obtain ⟨x1,g1,i1⟩:=ar.get e1
       obtain ⟨y1,g2,i2⟩:=ar'.get e2
       have d1:ds.getD j .non=ds[j]:=by simp [j1]
       have d2:es.getD j .non=es[j]:=by simp [j2]
       show SeqAt.EqAt A.in1 s _ _ (eqD (ds.getD j .non) (es.getD j .non))
       rw [d1,d2]
       have hm:=dpDs_mem (List.getElem_mem j1)
       have z1:dpD (D.lst ds)=dpDs ds+1:=by simp only [dpD]
       refine eqAt_D I ds[j] es[j] x1 y1 _ _ A.in1 i1 i2 (Yi r (by simpa using h1) g1) (Yi r' (by simpa using h2) g2) ?_ ?_
       ·show A.units+1+dpD ds[j]<cLine
        omega
       ·show A.units+1<cLine
        omega)
      have al:=Vd ds es
      rw [<-hl,Nat.min_self,beq_self_eq_true,Bool.and_true] at al
      rw [l1,al] at main
      exact main
     ·have main:=SeqAt.RcAt.lists_lengths (A:=A) ht ht' (by rw [l1,l2]; simpa using hl) hu2
      have al:=Vd ds es
      have hf:(ds.length == es.length)=false:=by simpa using hl
      rw [hf,Bool.and_false] at al
      have z:eqD (D.lst ds) (D.lst es)=eqDs ds es:=by simp only [eqD]
      rw [z, <-al]
      exact main
    | tup es =>
     obtain ⟨a',vs',rfl,q',ar'⟩:=he
     cases ry
     obtain ⟨its',r',ht',_⟩:=I.tuple q'
     exact SeqAt.RcAt.list_tuple ht ht' hu2
    | non=>cases hfe
    | bl _=>cases hfe
    | int _=>cases hfe
    | str _=>cases hfe
   | non=>cases hfd
   | bl _=>cases hfd
   | int _=>cases hfd
   | str _=>cases hfd
theorem rcNe_V {A:Around} {s:Shared} {y x:V} {u v:Value} (ry:Z2 y u) (rx:Z2 x v) (fy:flatV y=true) (fx:flatV x=true):SeqAt.RcNeAt A s u v (!(eqV y x)):=by
 cases y with
 | non =>
  cases ry
  cases x with
  | non=>cases rx; exact SeqAt.RcNeAt.none_none
  | bl b=>cases rx; exact SeqAt.RcNeAt.none_bool b
  | int b=>obtain ⟨t,rfl⟩:=rx; exact SeqAt.RcNeAt.none_int b t
  | str b=>obtain ⟨t,rfl⟩:=rx; exact SeqAt.RcNeAt.none_str b t
  | _=>exact absurd (show false=true from fx) Bool.false_ne_true
 | bl a =>
  cases ry
  cases x with
  | non=>cases rx; exact SeqAt.RcNeAt.bool_none a
  | bl b=>cases rx; exact SeqAt.RcNeAt.bool_bool a b
  | int b=>obtain ⟨t,rfl⟩:=rx; exact SeqAt.RcNeAt.bool_int a b t
  | str b=>obtain ⟨t,rfl⟩:=rx; exact SeqAt.RcNeAt.bool_str a b t
  | _=>exact absurd (show false=true from fx) Bool.false_ne_true
 | int a =>
  obtain ⟨t',rfl⟩:=ry
  cases x with
  | non=>cases rx; exact SeqAt.RcNeAt.int_none a t'
  | bl b=>cases rx; exact SeqAt.RcNeAt.int_bool a t' b
  | int b=>obtain ⟨t,rfl⟩:=rx; exact SeqAt.RcNeAt.int_int a t' b t
  | str b=>obtain ⟨t,rfl⟩:=rx; exact SeqAt.RcNeAt.int_str a t' b t
  | _=>exact absurd (show false=true from fx) Bool.false_ne_true
 | str a =>
  obtain ⟨t',rfl⟩:=ry
  cases x with
  | non=>cases rx; exact SeqAt.RcNeAt.str_none a t'
  | bl b=>cases rx; exact SeqAt.RcNeAt.str_bool a t' b
  | int b=>obtain ⟨t,rfl⟩:=rx; exact SeqAt.RcNeAt.str_int a t' b t
  | str b=>obtain ⟨t,rfl⟩:=rx; exact SeqAt.RcNeAt.str_str a t' b t
  | _=>exact absurd (show false=true from fx) Bool.false_ne_true
 | _=>exact absurd (show false=true from fy) Bool.false_ne_true
theorem rcNe_D {X:Cx} {pins:List (Addr × Obj)} {σ:St} {H:Hp} {s:Shared} (I:Zs X pins σ H s) (d e:D) (x y:V) (u v:Value) (A:Around) (hd:Vu X.K H d x) (he:Vu X.K H e y) (rx:Z2 x u) (ry:Z2 y v) (hu:A.units+dpD d<cLine) (hu2:A.units<cLine) :
  SeqAt.RcNeAt A s u v (!(eqD d e)):=by
 cases hfd:flD d with
 | some x' =>
  obtain ⟨rfl,fx⟩:=Vu.flat hfd hd
  cases hfe:flD e with
  | some y' =>
   obtain ⟨rfl,fy⟩:=Vu.flat hfe he
   rw [eqD_flat hfd hfe]
   exact rcNe_V rx ry fx fy
  | none =>
   cases e with
   | tup es =>
    obtain ⟨a,vs,rfl,q,_⟩:=he
    cases ry
    obtain ⟨its,_,ht,_⟩:=I.tuple q
    cases d with
    | non=>cases hfd; cases rx; exact SeqAt.RcNeAt.none_tuple ht hu2
    | bl b=>cases hfd; cases rx; exact SeqAt.RcNeAt.bool_tuple b ht hu2
    | int b=>cases hfd; obtain ⟨t,rfl⟩:=rx; exact SeqAt.RcNeAt.int_tuple b t ht hu2
    | str b=>cases hfd; obtain ⟨t,rfl⟩:=rx; exact SeqAt.RcNeAt.str_tuple b t ht hu2
    | tup _=>cases hfd
    | lst _=>cases hfd
   | lst es =>
    obtain ⟨a,vs,rfl,q,_⟩:=he
    cases ry
    obtain ⟨its,_,hp,_⟩:=I.list q
    have ht:=hp.isList
    cases d with
    | non=>cases hfd; cases rx; exact SeqAt.RcNeAt.none_list ht hu2
    | bl b=>cases hfd; cases rx; exact SeqAt.RcNeAt.bool_list b ht hu2
    | int b=>cases hfd; obtain ⟨t,rfl⟩:=rx; exact SeqAt.RcNeAt.int_list b t ht hu2
    | str b=>cases hfd; obtain ⟨t,rfl⟩:=rx; exact SeqAt.RcNeAt.str_list b t ht hu2
    | tup _=>cases hfd
    | lst _=>cases hfd
   | non=>cases hfe
   | bl _=>cases hfe
   | int _=>cases hfe
   | str _=>cases hfe
 | none =>
  cases hfe:flD e with
  | some y' =>
   obtain ⟨rfl,fy⟩:=Vu.flat hfe he
   cases d with
   | tup es =>
    obtain ⟨a,vs,rfl,q,_⟩:=hd
    cases rx
    obtain ⟨its,_,ht,_⟩:=I.tuple q
    cases e with
    | non=>cases hfe; cases ry; exact SeqAt.RcNeAt.tuple_none ht hu2
    | bl b=>cases hfe; cases ry; exact SeqAt.RcNeAt.tuple_bool b ht hu2
    | int b=>cases hfe; obtain ⟨t,rfl⟩:=ry; exact SeqAt.RcNeAt.tuple_int b t ht hu2
    | str b=>cases hfe; obtain ⟨t,rfl⟩:=ry; exact SeqAt.RcNeAt.tuple_str b t ht hu2
    | tup _=>cases hfe
    | lst _=>cases hfe
   | lst es =>
    obtain ⟨a,vs,rfl,q,_⟩:=hd
    cases rx
    obtain ⟨its,_,hp,_⟩:=I.list q
    have ht:=hp.isList
    cases e with
    | non=>cases hfe; cases ry; exact SeqAt.RcNeAt.list_none ht hu2
    | bl b=>cases hfe; cases ry; exact SeqAt.RcNeAt.list_bool b ht hu2
    | int b=>cases hfe; obtain ⟨t,rfl⟩:=ry; exact SeqAt.RcNeAt.list_int b t ht hu2
    | str b=>cases hfe; obtain ⟨t,rfl⟩:=ry; exact SeqAt.RcNeAt.list_str b t ht hu2
    | tup _=>cases hfe
    | lst _=>cases hfe
   | non=>cases hfd
   | bl _=>cases hfd
   | int _=>cases hfd
   | str _=>cases hfd
  | none =>
   cases d with
   | tup ds =>
    obtain ⟨a,vs,rfl,q,ar⟩:=hd
    cases rx
    obtain ⟨its,r,ht,_⟩:=I.tuple q
    cases e with
    | tup es =>
     obtain ⟨a',vs',rfl,q',ar'⟩:=he
     cases ry
     obtain ⟨its',r',ht',_⟩:=I.tuple q'
     have l1:its.toArray.size=ds.length:=by rw [List.size_toArray, <-r.length, <-ar.length]
     have l2:its'.toArray.size=es.length:=by rw [List.size_toArray, <-r'.length, <-ar'.length]
     have main:=SeqAt.RcNeAt.tuples (A:=A) (e:=fun j=>eqD (ds.getD j .non) (es.getD j .non)) ht ht' hu2 (fun j h1 h2=>by
       have j1:j<ds.length:=by omega
       have j2:j<es.length:=by omega
       have e1:ds[j]?=some ds[j]:=List.getElem?_eq_getElem j1
       have e2:es[j]?=some es[j]:=List.getElem?_eq_getElem j2
       obtain ⟨x1,g1,i1⟩:=ar.get e1
       obtain ⟨y1,g2,i2⟩:=ar'.get e2
       have d1:ds.getD j .non=ds[j]:=by simp [j1]
       have d2:es.getD j .non=es[j]:=by simp [j2]
       show SeqAt.EqAt A.in1 s _ _ (eqD (ds.getD j .non) (es.getD j .non))
       rw [d1,d2]
       have hm:=dpDs_mem (List.getElem_mem j1)
       have z1:dpD (D.tup ds)=dpDs ds+1:=by simp only [dpD]
       refine eqAt_D I ds[j] es[j] x1 y1 _ _ A.in1 i1 i2 (Yi r (by simpa using h1) g1) (Yi r' (by simpa using h2) g2) ?_ ?_
       ·show A.units+1+dpD ds[j]<cLine
        omega
       ·show A.units+1<cLine
        omega)
     rw [l1,l2,Vd] at main
     exact main
    | lst es =>
     obtain ⟨a',vs',rfl,q',ar'⟩:=he
     cases ry
     obtain ⟨its',r',hp',_⟩:=I.list q'
     exact SeqAt.RcNeAt.tuple_list ht hp'.isList hu2
    | non=>cases hfe
    | bl _=>cases hfe
    | int _=>cases hfe
    | str _=>cases hfe
   | lst ds =>
    obtain ⟨a,vs,rfl,q,ar⟩:=hd
    cases rx
    obtain ⟨its,r,hp,_⟩:=I.list q
    have ht:=hp.isList
    cases e with
    | lst es =>
     obtain ⟨a',vs',rfl,q',ar'⟩:=he
     cases ry
     obtain ⟨its',r',hp',_⟩:=I.list q'
     have ht':=hp'.isList
     have l1:its.toArray.size=ds.length:=by rw [List.size_toArray, <-r.length, <-ar.length]
     have l2:its'.toArray.size=es.length:=by rw [List.size_toArray, <-r'.length, <-ar'.length]
     by_cases hl:ds.length=es.length
     ·have main:=SeqAt.RcNeAt.lists (A:=A) (e:=fun j=>eqD (ds.getD j .non) (es.getD j .non)) ht ht' (by omega) hu2 (fun j h1 h2=>by
       have j1:j<ds.length:=by omega
       have j2:j<es.length:=by omega
       have e1:ds[j]?=some ds[j]:=List.getElem?_eq_getElem j1
       have e2:es[j]?=some es[j]:=List.getElem?_eq_getElem j2
       obtain ⟨x1,g1,i1⟩:=ar.get e1
       obtain ⟨y1,g2,i2⟩:=ar'.get e2
       have d1:ds.getD j .non=ds[j]:=by simp [j1]
       have d2:es.getD j .non=es[j]:=by simp [j2]
       show SeqAt.EqAt A.in1 s _ _ (eqD (ds.getD j .non) (es.getD j .non))
       rw [d1,d2]
       have hm:=dpDs_mem (List.getElem_mem j1)
       have z1:dpD (D.lst ds)=dpDs ds+1:=by simp only [dpD]
       refine eqAt_D I ds[j] es[j] x1 y1 _ _ A.in1 i1 i2 (Yi r (by simpa using h1) g1) (Yi r' (by simpa using h2) g2) ?_ ?_
       ·show A.units+1+dpD ds[j]<cLine
        omega
       ·show A.units+1<cLine
        omega)
      have al:=Vd ds es
      rw [<-hl,Nat.min_self,beq_self_eq_true,Bool.and_true] at al
      rw [l1,al] at main
      exact main
     ·have main:=SeqAt.RcNeAt.lists_lengths (A:=A) ht ht' (by rw [l1,l2]; simpa using hl) hu2
      have al:=Vd ds es
      have hf:(ds.length == es.length)=false:=by simpa using hl
      rw [hf,Bool.and_false] at al
      have z:eqD (D.lst ds) (D.lst es)=eqDs ds es:=by simp only [eqD]
      rw [z, <-al]
      exact main
    | tup es =>
     obtain ⟨a',vs',rfl,q',ar'⟩:=he
     cases ry
     obtain ⟨its',r',ht',_⟩:=I.tuple q'
     exact SeqAt.RcNeAt.list_tuple ht ht' hu2
    | non=>cases hfe
    | bl _=>cases hfe
    | int _=>cases hfe
    | str _=>cases hfe
   | non=>cases hfd
   | bl _=>cases hfd
   | int _=>cases hfd
   | str _=>cases hfd
section
variable {X:Cx}
def rEqD (K:W.Frag) (A:Around):R2:=fun x y H Q=>∃ d e,Vu K H d x/\Vu K H e y/\A.units+dpD d<cLine/\Q (.bl (eqD d e)) H
def rNeD (K:W.Frag) (A:Around):R2:=fun x y H Q=>∃ d e,Vu K H d x/\Vu K H e y/\A.units+dpD d<cLine/\Q (.bl (!eqD d e)) H
theorem op_eqD:OpR X (compareOp .Eq) (rEqD X.K X.A):=by
 intro pins s σ H x y v u Q I rx ry h
 obtain ⟨d,e,hd,he,hu,q⟩:=h
 exact rcEq_D I d e x y v u X.A hd he rx ry hu (by omega) X.prog X.w X.xe _ ⟨.bl _,H,I,rfl,q⟩
theorem op_neD:OpR X (compareOp .NotEq) (rNeD X.K X.A):=by
 intro pins s σ H x y v u Q I rx ry h
 obtain ⟨d,e,hd,he,hu,q⟩:=h
 exact rcNe_D I d e x y v u X.A hd he rx ry hu (by omega) X.prog X.w X.xe _ ⟨.bl _,H,I,rfl,q⟩
end
abbrev noE:Value->Shared->Prop:=fun _ _=>False
def testsOf (ifs:List Expr) (env:Env):Sem Bool :=
 forIn ifs true fun c r=>if r=true then (isTrue c env (eval c env) >>= fun b=>pure (ForInStep.yield b)) else pure (ForInStep.yield r)
section
variable (prog:Program) (w:World) (A:Around) (tg elt:Expr) (ifs:List Expr) (env:Env) (it acc:Value)
def TurnEnd (nxt:Shared->Prop) (ok:Bool) (s:Shared):Prop :=
 if ok=true then wpAny (model prog w) A (eval elt env) (fun y s1=>wpAny (model prog w) A (call (.builtin "list.append") [acc,y]) (fun _ s2=>nxt s2) noE s1) noE s else nxt s
def TurnGo (nxt:Shared->Prop) (v:Value) (s:Shared):Prop :=
 wpAny (model prog w) A (letOwnedTupleGo tg it v) (fun _ s1=>wpAny (model prog w) A (assign tg env v) (fun _ s2=>wpAny (model prog w) A (testsOf ifs env) (TurnEnd prog w A elt env acc nxt) noE s2) noE s1) noE s
end
theorem compLoop_gen {prog:Program} {w:World} {A:Around} {R:Result->Shared->Prop} {s:Shared} {elt tg iter:Expr} {ifs:List Expr} {scope:Scope} {pos:Pos} {it acc:Value} {env:Env} (W:Nat->Shared->Prop)
  (turn:∀ m s1,W m s1->wpAny (model prog w) A (pyNext it) (fun r s2=>r.elim (R (.ok .next) s2) fun v=>TurnGo prog w A tg elt ifs env it acc (fun s3=>∃ m',m'<m/\W m' s3) v s2) noE s1)
  (m:Nat) (start:W m s):codeAny (model prog w) A (.compLoop (.ListComp elt [⟨tg,iter,ifs,0⟩] scope pos) 0 it acc env) R s:=by
 refine codeAny_loop rfl W (fun k s1 hw=>?_) m start
 refine wpAny_noted (env:=env) (m:=compTurn (.ListComp elt [⟨tg,iter,ifs,0⟩] scope pos) 0 it acc env) ?_
 rw [compTurn_list]
 refine wpAny_bind (wpAny_standAt (wpAny_bind (wpAny_mono (turn k s1 hw) (fun r s2 q=>?_) fun _ _ z=>z.elim)))
 cases r with
 | none=>exact wpAny_pure q
 | some v =>
  have q:TurnGo prog w A tg elt ifs env it acc (fun s3=>∃ m',m'<k/\W m' s3) v s2:=q
  refine wpAny_bind (wpAny_mono q (fun _ s3 q3=>wpAny_bind (wpAny_mono q3 (fun _ s4 q4=>wpAny_bind (wpAny_mono q4 (fun ok s5 q5=>?_) fun _ _ z=>z.elim)) fun _ _ z=>z.elim)) fun _ _ z=>z.elim)
  cases ok with
  | false=>exact wpAny_pure ⟨rfl,q5⟩
  | true=>exact wpAny_bind (wpAny_bind (wpAny_mono q5 (fun y s6 q6=>wpAny_bind (wpAny_mono q6 (fun _ s7 q7=>wpAny_pure (wpAny_pure ⟨rfl,q7⟩)) fun _ _ z=>z.elim)) fun _ _ z=>z.elim))
def Vq (env:Env):List (Str × NameKind)->List (Str × Addr)->List (Str × Addr)
 | [],cs=>cs
 | (n,k)::r,cs=>Vq env r (if k == .free then (n,(env.cells.lookup n).getD 0)::cs else cs)
def Yp (X:Cx) (scope:Scope) (N:List Str) (fp:List Addr) (s:Shared) (H:Hp):Cx :=
 { X with N:=N,s₀:=s,H₀:=H,env:=compEnvC scope (Vq X.env scope.names []) s.heap.objs.size X.env,outer:=X.stack,stack:=X.stack,ex:=fp,fn:=fun _=>false,pn:=[],xe:=noE }
structure CompOk (X:Cx) (scope:Scope) (N:List Str) (fr:List (Option Nat)):Prop where
 clos:closureFor scope X.env=pure (Vq X.env scope.names [])
 kind:scope.kind=.function
 nocell:∀ y∈scope.names,y.2≠.cell
 names:∀ y∈scope.names,y.2=.local->scope.names.lookup y.1=some .local
 cells:∀ x c,(Vq X.env scope.names []).lookup x=some c->X.env.cells.lookup x=some c
 has:∀ x,((relabel scope X.env).names.lookup x=some .cell\/(relabel scope X.env).names.lookup x=some .free)->∃ c,(Vq X.env scope.names []).lookup x=some c
 len:fr.length=N.length
 fr:∀ (i j:Nat),fr[i]?=some (some j)->∃ x,N[i]?=some x/\X.N[j]?=some x/\Vis X.env.scope x/\¬ X.env.kindOf x=some .local/\((relabel scope X.env).names.lookup x=some .cell\/(relabel scope X.env).names.lookup x=some .free)
def frees (fr:List (Option Nat)) (σ:St):St:=fr.map fun o=>o.bind fun i=>(σ[i]?).bind id
theorem frees_length (fr:List (Option Nat)) (σ:St):(frees fr σ).length=fr.length:=List.length_map _
theorem frees_get {fr:List (Option Nat)} {σ:St} {i:Nat} {v:V} (h:(frees fr σ)[i]?=some (some v)):∃ j,fr[i]?=some (some j)/\σ[j]?=some (some v):=by
 unfold frees at h
 rw [List.getElem?_map] at h
 cases e:fr[i]? with
 | none=>rw [e] at h; cases h
 | some o =>
  rw [e] at h
  cases o with
  | none=>cases h
  | some j =>
   refine ⟨j,rfl, ?_⟩
   have h':(σ[j]?).bind id=some v:=Option.some.inj h
   cases e2:σ[j]? with
   | none=>rw [e2] at h'; cases h'
   | some o2=>rw [e2] at h'; exact congrArg some h'
theorem mem_relabel {scope:Scope} {env:Env} {x:Str} {k:NameKind} (h:(relabel scope env).names.lookup x=some k):∃ k0,(x,k0)∈scope.names/\(k=k0\/(k0=.free/\k=.cell)):=by
 have hm:=PySem.mem_of_lookup h
 obtain ⟨⟨n,k0⟩,h1,h2⟩:=List.mem_map.mp (show (x,k)∈scope.names.map _ from hm)
 dsimp only at h2
 split at h2
 ·rename_i hc
  cases h2
  simp only [Bool.and_eq_true,beq_iff_eq] at hc
  exact ⟨k0,h1,.inr ⟨hc.1.1,rfl⟩⟩
 ·cases h2
  exact ⟨k,h1,.inl rfl⟩
def scOk (outer scope:Scope):Bool :=
 decide (scope.kind=.function) && scope.names.all fun y=>decide (y.2≠.cell) && (decide (y.2≠.local) || decide (scope.names.lookup y.1=some .local)) &&
  (decide (y.2≠.free) || decide (outer.names.lookup y.1=some .cell) || decide (outer.names.lookup y.1=some .free))
def frOk (NX:List Str) (names:List (Str × NameKind)):List Str->List (Option Nat)->Bool
 | [],[]=>true
 | _::N,none::fr=>frOk NX names N fr
 | x::N,some j::fr=>decide (NX[j]?=some x) && decide (names.lookup x=some .free) && frOk NX names N fr
 | _,_=>false
theorem frOk_len {NX:List Str} {names:List (Str × NameKind)}:∀ {N:List Str} {fr:List (Option Nat)},frOk NX names N fr=true->fr.length=N.length
 | [],[],_=>rfl
 | [],_::_,h=>by simp [frOk] at h
 | _::_,[],h=>by simp [frOk] at h
 | x::N,none::fr,h=>by
  simp only [frOk] at h
  simp only [List.length_cons,frOk_len h]
 | x::N,some j::fr,h=>by
  simp only [frOk,Bool.and_eq_true] at h
  simp only [List.length_cons,frOk_len h.2]
theorem frOk_get {NX:List Str} {names:List (Str × NameKind)}:∀ {N:List Str} {fr:List (Option Nat)} {i j:Nat},frOk NX names N fr=true->fr[i]?=some (some j)->∃ x,N[i]?=some x/\NX[j]?=some x/\names.lookup x=some .free
 | [],[],_,_,_,e=>by simp at e
 | [],_::_,_,_,h,_=>by simp [frOk] at h
 | _::_,[],_,_,h,_=>by simp [frOk] at h
 | x::N,none::fr,0,_,_,e=>by simp at e
 | x::N,none::fr,i+1,j,h,e=>by
  simp only [frOk] at h
  obtain ⟨y,h1,h2⟩:=frOk_get (i:=i) h (by simpa using e)
  exact ⟨y,by simpa using h1,h2⟩
 | x::N,some k::fr,0,j,h,e=>by
  simp only [frOk,Bool.and_eq_true,decide_eq_true_eq] at h
  simp at e
  subst e
  exact ⟨x,rfl,h.1.1,h.1.2⟩
 | x::N,some k::fr,i+1,j,h,e=>by
  simp only [frOk,Bool.and_eq_true] at h
  obtain ⟨y,h1,h2⟩:=frOk_get (i:=i) h.2 (by simpa using e)
  exact ⟨y,by simpa using h1,h2⟩
theorem lookup_map_kind {f:Str->NameKind->NameKind} (x:Str):∀ names:List (Str × NameKind),(names.map fun p=>(p.1,f p.1 p.2)).lookup x=(names.lookup x).map (f x)
 | []=>rfl
 | (n,k)::r=>by
  have ih:=lookup_map_kind (f:=f) x r
  cases e:x == n with
  | false =>
   simp only [List.map_cons,List.lookup_cons,e]
   exact ih
  | true =>
   have e':x=n:=by simpa using e
   simp only [List.map_cons,List.lookup_cons,e,Option.map_some]
   rw [e']
theorem relabel_names (scope:Scope) (env:Env):(relabel scope env).names=scope.names.map fun p=>(p.1,if (p.2 == NameKind.free && env.scope.kind == .function && env.kindOf p.1 == some .cell)=true then NameKind.cell else p.2):=by
 show scope.names.map _=_
 refine List.map_congr_left fun p _=>?_
 obtain ⟨n,k⟩:=p
 dsimp only
 split <;> rfl
theorem lookup_relabel_free {scope:Scope} {env:Env} {x:Str} (h:scope.names.lookup x=some .free):(relabel scope env).names.lookup x=some .cell\/(relabel scope env).names.lookup x=some .free:=by
 rw [relabel_names,lookup_map_kind (f:=fun n k=>if (k == NameKind.free && env.scope.kind == .function && env.kindOf n == some .cell)=true then NameKind.cell else k),h]
 dsimp only [Option.map_some]
 split
 ·exact .inl rfl
 ·exact .inr rfl
theorem closOf_mem {env:Env}:∀ {names:List (Str × NameKind)} {cs:List (Str × Addr)},(∀ y∈names,y.2=.free->∃ c,env.cells.lookup y.1=some c)->(∀ p∈cs,env.cells.lookup p.1=some p.2)->∀ p∈Vq env names cs,env.cells.lookup p.1=some p.2
 | [],cs,_,hc,p,hp=>hc p hp
 | (n,k)::r,cs,hn,hc,p,hp=>by
  simp only [Vq] at hp
  refine closOf_mem (fun y hy=>hn y (List.mem_cons_of_mem _ hy)) (fun q hq=>?_) p hp
  split at hq
  ·rename_i hk
   rcases List.mem_cons.mp hq with e | hq
   ·obtain ⟨c,hc'⟩:=hn (n,k) List.mem_cons_self (by simpa using hk)
    subst e
    dsimp only at hc' ⊢
    rw [hc']
    rfl
   ·exact hc q hq
  ·exact hc q hq
theorem closOf_old {env:Env}:∀ {names:List (Str × NameKind)} {cs:List (Str × Addr)} {p:Str × Addr},p∈cs->p∈Vq env names cs
 | [],_,_,h=>h
 | (n,k)::r,cs,p,h=>by
  simp only [Vq]
  refine closOf_old ?_
  split
  ·exact List.mem_cons_of_mem _ h
  ·exact h
theorem closOf_has {env:Env}:∀ {names:List (Str × NameKind)} {cs:List (Str × Addr)} {x:Str},(x,NameKind.free)∈names->∃ c,(x,c)∈Vq env names cs
 | (n,k)::r,cs,x,h=>by
  rcases List.mem_cons.mp h with e | h
  ·cases e
   exact ⟨_,by simp only [Vq,beq_self_eq_true,if_true]; exact closOf_old List.mem_cons_self⟩
  ·simp only [Vq]
   exact closOf_has h
theorem lookup_of_mem {β:Type}:∀ {l:List (Str × β)} {x:Str} {b:β},(x,b)∈l->∃ c,l.lookup x=some c
 | (n,c)::r,x,b,h=>by
  cases hx:x == n with
  | true=>exact ⟨c,by simp only [List.lookup_cons,hx]⟩
  | false =>
   rcases List.mem_cons.mp h with e | h
   ·cases e
    simp at hx
   ·obtain ⟨d,hd⟩:=lookup_of_mem h
    exact ⟨d,by simp only [List.lookup_cons,hx]; exact hd⟩
theorem closureFor_eq {scope:Scope} {env:Env} (h:∀ y∈scope.names,y.2=.free->∃ c,env.cells.lookup y.1=some c):closureFor scope env=pure (Vq env scope.names []):=by
 have go:∀ (names:List (Str × NameKind)) (cs:List (Str × Addr)),(∀ y∈names,y.2=.free->∃ c,env.cells.lookup y.1=some c) ->
   (forIn names cs fun x cs=>(do
    if x.2 == NameKind.free then pure (ForInStep.yield ((x.1, <-cellOf env x.1)::cs)) else pure (ForInStep.yield cs):Sem (ForInStep (List (Str × Addr)))))=pure (Vq env names cs):=by
  intro names
  induction names with
  | nil=>intro cs _; rfl
  | cons y r ih =>
   intro cs hn
   obtain ⟨n,k⟩:=y
   have hr:∀ y∈r,y.2=.free->∃ c,env.cells.lookup y.1=some c:=fun y hy=>hn y (List.mem_cons_of_mem _ hy)
   rw [List.forIn_cons]
   by_cases hk:k=.free
   ·subst hk
    obtain ⟨c,hc⟩:=hn (n,.free) List.mem_cons_self rfl
    have ec:cellOf env n=pure c:=by
     unfold cellOf
     dsimp only at hc
     rw [hc]
    simp only [beq_self_eq_true,if_true,ec,pure_bind,Vq]
    rw [ih _ hr]
    dsimp only at hc
    rw [hc]
    rfl
   ·have hb:(k == NameKind.free)=false:=by simpa using hk
    simp only [hb,Bool.false_eq_true,if_false,pure_bind,Vq]
    exact ih _ hr
 have:=go scope.names [] h
 unfold closureFor
 simp only [bind_pure_comp] at this ⊢
 first
  | exact this
  | (simpa using this)
structure CompFr (X:Cx) (NX:List Str) (outer scope:Scope) (N:List Str) (fr:List (Option Nat)):Prop where
 nx:X.N=NX
 sc:X.env.scope.names=outer.names
 ok1:scOk outer scope=true
 ok2:frOk NX scope.names N fr=true
theorem CompFr.ok {X:Cx} {NX:List Str} {outer scope:Scope} {N:List Str} {fr:List (Option Nat)} (C:CompFr X NX outer scope N fr) (ok:X.Ok):CompOk X scope N fr:=by
 have h1:=C.ok1
 unfold scOk at h1
 simp only [Bool.and_eq_true,decide_eq_true_eq,List.all_eq_true,Bool.or_eq_true] at h1
 obtain ⟨hk,hn⟩:=h1
 have kof:∀ x,X.env.kindOf x=outer.names.lookup x:=fun x=>by
  show X.env.scope.names.lookup x=_
  rw [C.sc]
 have hfree:∀ y∈scope.names,y.2=.free->X.env.kindOf y.1=some .cell\/X.env.kindOf y.1=some .free:=fun y hy e=>by
  rcases (hn y hy).2 with (z | z) | z
  ·exact absurd e z
  ·exact .inl ((kof _).trans z)
  ·exact .inr ((kof _).trans z)
 have hcell:∀ y∈scope.names,y.2=.free->∃ c,X.env.cells.lookup y.1=some c:=fun y hy e=>ok.has y.1 (hfree y hy e)
 refine ⟨closureFor_eq hcell,hk,fun y hy=>(hn y hy).1.1,fun y hy e=>?_,fun x c e=>?_,fun x h=>?_,frOk_len C.ok2,fun i j e=>?_⟩
 ·rcases (hn y hy).1.2 with z | z
  ·exact absurd e z
  ·exact z
 ·exact closOf_mem hcell (fun p hp=>by cases hp) (x,c) (PySem.mem_of_lookup e)
 ·have hm:(x,NameKind.free)∈scope.names:=by
   rcases h with h | h
   ·obtain ⟨k0,h1,h2⟩:=mem_relabel h
    rcases h2 with h2 | ⟨h2,_⟩
    ·exact absurd h2.symm (hn _ h1).1.1
    ·subst h2; exact h1
   ·obtain ⟨k0,h1,h2⟩:=mem_relabel h
    rcases h2 with h2 | ⟨_,h2⟩
    ·subst h2; exact h1
    ·cases h2
  obtain ⟨c,hc⟩:=closOf_has (env:=X.env) (cs:=[]) hm
  exact lookup_of_mem hc
 ·obtain ⟨x,q1,q2,q3⟩:=frOk_get C.ok2 e
  have hm:=PySem.mem_of_lookup q3
  have hf:=hfree (x,.free) hm rfl
  refine ⟨x,q1,by rw [C.nx]; exact q2, ?_, ?_,lookup_relabel_free q3⟩
  ·exact .inr hf
  ·intro z
   dsimp only at hf
   rw [z] at hf
   rcases hf with hf | hf <;> cases hf
section
variable {X:Cx} {scope:Scope} {N:List Str} {fr:List (Option Nat)} {pins:List (Addr × Obj)} {σ:St} {H:Hp} {s:Shared} {fp:List Addr}
theorem inv_comp (C:CompOk X scope N fr) (I:Zs X pins σ H s) (hf:∀ b∈fp,FpOk X pins H b) (hob:∀ b∈fp,∃ o,s.heap.get? b=some o) {h1:Heap} {tk:Nat}
  (hns:h1.Ns s.heap.objs.size fun _=>none) (hk:∀ b o,s.heap.get? b=some o->h1.get? b=some o) :
  Zs (Yp X scope N fp s H) [] (frees fr σ) H { s with heap:=h1,toks:=tk }:=by
 have lt:∀ b∈fp,b<s.heap.objs.size:=fun b hb=>let ⟨_,e⟩:=hob b hb; Heap.lt_size e
 have cellK:∀ x c,(Vq X.env scope.names []).lookup x=some c->∃ v,s.heap.IsCell c v:=fun x c e=>I.cell x c (C.cells x c e)
 have ck:∀ c v,s.heap.IsCell c v->h1.IsCell c v:=fun c v ⟨o,e,d⟩=>⟨o,hk c o e,d⟩
 refine ⟨⟨I.ok.mod,C.kind,I.ok.glob,I.ok.blt,Nat.le_refl _,fun x y c e1 e2=>I.ok.inj x y c (C.cells x c e1) (C.cells y c e2),fun x h=>C.has x h,fun x c h _=>absurd h Bool.false_ne_true,I.ok.hd,I.ok.frames,.inl rfl,
   fun b hb=>⟨Nat.ne_of_lt (lt b hb),fun x c e=>(hf b hb).2.2.2.2.1 x c (C.cells x c e)⟩,I.bs,Nat.le_trans I.ok.bsz I.sz,fun b o e hb=>?_,fun b hb hb'=>?_,I.stack,I.stkFree⟩,
  rfl,I.bare,Un.kept hk,⟨_,hns,fun i x v e1 e2 e3=>?_⟩,fun x c e=>?_,I.hok.fresh (Nat.le_refl _),fun x c e=>I.freeC x c (C.cells x c e),fun p hp=>absurd (show p∈([]:List (Addr × Obj)) from hp) (by simp),I.hok.kept hk, ?_⟩
 ·rcases (hf b hb).2.2.2.1 with z | z
  ·exact I.ok.noex b o e z
  ·exact absurd (Nat.lt_of_lt_of_le (Heap.lt_size (I.ok.bs b o e).1) z) (Nat.lt_irrefl _)
 ·rcases List.mem_cons.mp (I.stkSub b hb') with z | z
  ·exact (hf b hb).2.1 z
  ·exact (hf b hb).2.2.1 z
 ·obtain ⟨j,q1,q2⟩:=frees_get e2
  obtain ⟨x',n1,n2,vis,nl,k⟩:=C.fr i j q1
  have ex:x=x':=Option.some.inj (e1.symm.trans n1)
  subst ex
  obtain ⟨m,hm,hl⟩:=I.loc
  obtain ⟨u,r,l⟩:=hl j x v n2 q2 vis
  refine ⟨u,r, ?_⟩
  rcases l with ⟨l1,_⟩ | ⟨_,c,l2,l3⟩
  ·exact absurd l1 nl
  ·obtain ⟨c',hc'⟩:=C.has x k
   have ec:=C.cells x c' hc'
   rw [l2] at ec
   have ec':c=c':=Option.some.inj ec
   subst ec'
   exact .inr ⟨k,c,hc',ck c _ l3⟩
 ·obtain ⟨v,z⟩:=cellK x c e
  exact ⟨v,ck c v z⟩
 ·show (frees fr σ).length=N.length
  rw [frees_length,C.len]
theorem inv_uncomp (I:Zs X pins σ H s) (hf:∀ b∈fp,FpOk X pins H b) {σ':St} {H':Hp} {s':Shared} (J:Zs (Yp X scope N fp s H) [] σ' H' s'):Zs X pins σ H' s' :=
 I.call' (ch:=fp) J.os J.base J.hok J.bare fun b hb=>⟨(hf b hb).2.2.2.1,(hf b hb).2.1,(hf b hb).2.2.2.2.1,(hf b hb).2.2.2.2.2⟩
end
def PTs (X:Cx) (ifs:List Expr) (t:TT):Prop :=
 ∀ (pins:List (Addr × Obj)) (s:Shared) (σ:St) (H:Hp) (Q:Bool->Hp->Prop),Zs X pins σ H s->t σ H Q ->
  wpAny (model X.prog X.w) X.A (testsOf ifs X.env) (TP X pins σ Q) X.xe s
def tAlways:TT:=fun _ H Q=>Q true H
theorem Yn {X:Cx}:PTs X [] tAlways:=fun _ _ _ H _ I h=>wpAny_tests_nil ⟨H,I,h⟩
theorem pts_one {X:Cx} {c:Expr} {t:TT} (h:PT X c t):PTs X [c] t:=fun pins s σ H Q I hw=>wpAny_tests_one (h pins s σ H Q I hw)
def CompW (J:It) (g:TG) (tt:TT) (te:TE) (D:Addr) (W:Nat->Nat->List V->St->Hp->Prop) (fin:Hp->Prop):Prop :=
 ∀ i m ys σ H,W i m ys σ H->H D=some (.lst ys)/\((J.stop i H/\fin H)\/(J.go i H/\∃ N:List V->St->Hp->Prop,(∀ ys' σ' H',N ys' σ' H'->∃ m',m'<m/\W (i+1) m' ys' σ' H') /\
  ∀ x H',J.yld i H x H'->g x σ H' fun σ2 H2=>tt σ2 H2 fun ok H3 =>
   if ok=true then te σ2 H3 fun y H4=>H4 D=some (.lst ys)/\ys.length<sizeLine/\N (ys++[y]) σ2 (Z3 H4 D (.lst (ys++[y]))) else N ys σ2 H3))
abbrev DG:=List Addr->Shared->Hp->TG
abbrev DT:=List Addr->Shared->Hp->TT
abbrev DE:=List Addr->Shared->Hp->TE
def tComp (wi:TI) (fr:List (Option Nat)) (g:DG) (tt:DT) (te:DE):TE:=fun σ H Q=>wi σ H fun J H1=>∀ D fp sx,H1 D=none ->
 ∃ W:Nat->Nat->List V->St->Hp->Prop,(∃ m,W 0 m [] (frees fr σ) (Z3 H1 D (.lst [])))/\CompW J (g fp sx (Z3 H1 D (.lst []))) (tt fp sx (Z3 H1 D (.lst []))) (te fp sx (Z3 H1 D (.lst []))) D W (fun H=>Q (.ref D) H)
section
variable {X:Cx} {scope:Scope} {N:List Str} {fr:List (Option Nat)} {tg elt iter:Expr} {ifs:List Expr} {pos:Pos} {wi:TI} {g:DG} {tt:DT} {te:DE}
theorem comp_run {pins:List (Addr × Obj)} {σ:St} {s2:Shared} {it:Addr} {fp:List Addr} {tn:Nat->Heap->Prop} {J:It} {H2:Hp} {RR:Value->Addr->Result->Shared->Prop} {E:Value->Shared->Prop}
  (hc:X.calm=true) (C:CompOk X scope N fr)
  (hg:∀ fp s H,PG (Yp X scope N fp s H) tg (g fp s H)) (ht:∀ fp s H,PTs (Yp X scope N fp s H) ifs (tt fp s H)) (he:∀ fp s H,PE (Yp X scope N fp s H) elt (te fp s H))
  (I2:Zs X pins σ H2 s2) (T:Turn X.prog X.w X.K tg J fp it tn) (st2:tn 0 s2.heap) (f2:∀ b∈fp,FpOk X pins H2 b) {fin:Addr->Hp->Prop}
  (hW:∀ D fp sx,H2 D=none->∃ W:Nat->Nat->List V->St->Hp->Prop,(∃ m,W 0 m [] (frees fr σ) (Z3 H2 D (.lst [])))/\CompW J (g fp sx (Z3 H2 D (.lst []))) (tt fp sx (Z3 H2 D (.lst []))) (te fp sx (Z3 H2 D (.lst []))) D W (fin D))
  (hend:∀ D Cc s' σ' H' m,Zs X pins σ H' s'->H' Cc=none->Cc≠X.env.locals->Cc ∉ X.fs->X.s₀.heap.objs.size<=Cc->(∀ x c,X.env.cells.lookup x=some c->c≠Cc)->(∀ p∈X.pn++pins,p.1≠Cc)->s'.heap.Ns Cc m->fin D H' ->
   RR (.ref D) Cc (.ok σ') s') :
  wpAny (model X.prog X.w) X.A (newList []) (fun acc s₃=>wpAny (model X.prog X.w) X.A (newFunctionEnv scope X.env.globals (Vq X.env scope.names []) [] X.env.qual none .none (some X.env)) (fun cenv s₄ =>
   codeAny (model X.prog X.w) X.A (.compStart (.ListComp elt [⟨tg,iter,ifs,0⟩] scope pos) 0 (.ref it) acc { cenv with scope:=relabel scope X.env }) (RR acc cenv.locals) s₄) E s₃) E s2:=by
 refine wpAny_newObj_type (wpAny_newFunctionEnv C.nocell (by intro y hy; simp at hy) (fun h₁ hns₁ hsb₁=>?_) C.kind)
 dsimp only at hns₁ hsb₁ ⊢
 have I3:Zs X pins σ (Z3 H2 s2.heap.objs.size (.lst [])) { s2 with heap:=s2.heap.push { cls:=.type "list",dict:=none,data:=.seq ([]:List Value).toArray } } :=
  I2.laid (t':=s2.toks) (fun b o e=>Heap.get?_push_of_some _ e) (Nat.le_refl _) ⟨Nat.zero_le _,[],0,.nil,Heap.get?_push_size _ rfl⟩
 have hD:H2 s2.heap.objs.size=none:=I2.hok.fresh (Nat.le_refl _)
 obtain ⟨W,⟨m0,w0⟩,turn⟩:=hW _ fp { s2 with heap:=s2.heap.push { cls:=.type "list",dict:=none,data:=.seq ([]:List Value).toArray } } hD
 generalize hDD:s2.heap.objs.size=D at *
 generalize hS3:({ s2 with heap:=s2.heap.push { cls:=.type "list",dict:=none,data:=.seq ([]:List Value).toArray } }:Shared)=S3 at *
 have hS3h:s2.heap.push { cls:=.type "list",dict:=none,data:=.seq ([]:List Value).toArray }=S3.heap:=by rw [<-hS3]
 rw [hS3h] at hns₁ hsb₁ ⊢
 have obj2:=T.obj 0 _ st2
 have nD:∀ b∈fp,b≠D:=fun b hb z=>by
  obtain ⟨o,e,_⟩:=obj2 b hb
  have q:=Heap.lt_size e
  rw [hDD,z] at q
  exact absurd q (Nat.lt_irrefl _)
 have f3:∀ b∈fp,FpOk X pins (Z3 H2 D (.lst [])) b:=fun b hb=>⟨by rw [Zk (nD b hb)]; exact (f2 b hb).1,(f2 b hb).2⟩
 have ob3:∀ b∈fp,∃ o,S3.heap.get? b=some o:=fun b hb=>by
  obtain ⟨o,e,_⟩:=obj2 b hb
  exact ⟨o,by rw [<-hS3h]; exact Heap.get?_push_of_some _ e⟩
 have st3:tn 0 S3.heap:=T.keep _ _ _ st2 fun b hb o e=>by rw [<-hS3h]; exact Heap.get?_push_of_some _ e
 have hk1:∀ b o,S3.heap.get? b=some o->h₁.get? b=some o:=fun b o e=>hsb₁.extBut b o (Nat.ne_of_lt (Heap.lt_size e)) (Heap.get?_push_of_some _ e)
 have J1:Zs (Yp X scope N fp S3 (Z3 H2 D (.lst []))) [] (frees fr σ) (Z3 H2 D (.lst [])) { S3 with heap:=h₁,toks:=s2.toks+([]:List (Str × Value)).length }:=inv_comp C I3 f3 ob3 hns₁ hk1
 have st4:tn 0 h₁:=T.keep _ _ _ st3 fun b hb o e=>hk1 b o e
 have es:({ s2 with heap:=h₁,toks:=s2.toks+([]:List (Str × Value)).length }:Shared)={ S3 with heap:=h₁,toks:=s2.toks+([]:List (Str × Value)).length }:=by rw [<-hS3]
 have FpC:∀ {H':Hp},(∀ b∈fp,H' b=none)->∀ b∈fp,FpOk (Yp X scope N fp S3 (Z3 H2 D (.lst []))) [] H' b:=fun hn b hb =>
  ⟨hn b hb,(J1.ok.exf b hb).1,J1.ok.exfs b hb,.inl hb,(J1.ok.exf b hb).2,fun p hp=>absurd (show p∈([]:List (Addr × Obj)) from hp) (by simp)⟩
 have loop:codeAny (model X.prog X.w) X.A (.compLoop (.ListComp elt [⟨tg,iter,ifs,0⟩] scope pos) 0 (.ref it) (.ref D) (Yp X scope N fp S3 (Z3 H2 D (.lst []))).env) (RR (.ref D) S3.heap.objs.size)
   { S3 with heap:=h₁,toks:=s2.toks+([]:List (Str × Value)).length }:=by
  refine compLoop_gen (fun n s'=>∃ i ys σ' H',Zs (Yp X scope N fp S3 (Z3 H2 D (.lst []))) [] σ' H' s'/\tn i s'.heap/\(∀ b∈fp,H' b=none)/\W i n ys σ' H') ?_ m0 ⟨0,[],_,_,J1,st4,fun b hb=>(f3 b hb).1,w0⟩
  rintro n s5 ⟨i,ys,σ5,H5,J5,st5,fr5,w5⟩
  obtain ⟨hDl,alt⟩:=turn i n ys σ5 H5 w5
  rcases alt with ⟨stop,fi⟩ | ⟨go,NN,hNN,step⟩
  ·refine Y9 (T.done (Yp X scope N fp S3 (Z3 H2 D (.lst []))) rfl rfl rfl hc i [] s5 σ5 H5 noE J5 (FpC fr5) st5 stop) fun r s6 ⟨hr,J6⟩=>?_
   subst hr
   show RR (.ref D) S3.heap.objs.size (.ok .next) s6
   have I6:=inv_uncomp I3 f3 J6
   obtain ⟨mm,hmm,_⟩:=J6.loc
   refine hend D _ s6 _ H5 mm I6 J6.free ?_ ?_ ?_ ?_ ?_ hmm fi
   ·exact Nat.ne_of_gt I3.lt
   ·exact I3.nofs (Nat.le_refl _)
   ·exact I3.sz
   ·intro x c e z
    obtain ⟨v,q⟩:=I3.cell x c e
    exact absurd q.lt (by rw [z]; exact Nat.lt_irrefl _)
   ·intro p hp z
    exact absurd (Heap.lt_size (I3.pin p hp).1) (by rw [z]; exact Nat.lt_irrefl _)
  ·refine Y9 (T.item (Yp X scope N fp S3 (Z3 H2 D (.lst []))) rfl rfl rfl hc i [] s5 σ5 H5 noE J5 (FpC fr5) st5 go) fun r s6 ⟨u,hr,h6⟩=>?_
   subst hr
   refine Y9 (Q:=_) h6 fun _ s7 ⟨x,H7,J7,r7,y7,st7,fr7⟩=>?_
   have J7':=J7.pinned (FpC fr7) (T.obj _ _ st7)
   have back:∀ {σ9:St} {H9:Hp} {s9:Shared},Zs (Yp X scope N fp S3 (Z3 H2 D (.lst []))) ([]++pinsAt fp s7.heap) σ9 H9 s9->tn (i+1) s9.heap/\∀ b∈fp,H9 b=none:=fun {σ9 H9 s9} J9 =>
    ⟨T.keep _ _ _ st7 fun b hb o e=>(J9.pin (b,o) (List.mem_append_right _ (List.mem_append_right _ (mem_pinsAt hb e)))).1,fun b hb=>by
     obtain ⟨o,e,d⟩:=T.obj _ _ st7 b hb
     exact (J9.pin (b,o) (List.mem_append_right _ (List.mem_append_right _ (mem_pinsAt hb e)))).2.1⟩
   refine Y9 (hg fp S3 _ _ s7 σ5 H7 x u _ J7' r7 (step x H7 y7)) fun _ s8 ⟨σ8,H8,J8,q8⟩=>?_
   refine Y9 (ht fp S3 _ _ s8 σ8 H8 _ J8 q8) fun ok s9 ⟨H9,J9,q9⟩=>?_
   cases ok with
   | false =>
    rw [if_neg Bool.false_ne_true] at q9
    unfold TurnEnd
    rw [if_neg Bool.false_ne_true]
    obtain ⟨m',hm,w9⟩:=hNN _ _ _ q9
    exact ⟨m',hm,i+1,ys,σ8,H9,J9.unpinned,(back J9).1,(back J9).2,w9⟩
   | true =>
    rw [if_pos rfl] at q9
    unfold TurnEnd
    rw [if_pos rfl]
    refine Y9 (he fp S3 _ _ s9 σ8 H9 _ J9 q9) fun yv s10 ⟨y,H10,J10,r10,hD10,hz,n10⟩=>?_
    obtain ⟨m',hm,w10⟩:=hNN _ _ _ n10
    refine Y9 (mt_append (X:=Yp X scope N fp S3 (Z3 H2 D (.lst []))) _ s10 σ8 H10 (.ref D) [y] (.ref D) [yv] (fun _ H'=>H'=Z3 H10 D (.lst (ys++[y]))) J10 rfl (.cons r10 .nil) ⟨D,ys,y,rfl,rfl,hD10,hz,rfl⟩) fun _ s11 ⟨v11,H11,J11,_,e11⟩=>?_
    subst e11
    exact ⟨m',hm,i+1,ys++[y],σ8,_,J11.unpinned,(back J11).1,(back J11).2,w10⟩
 rw [es]
 exact codeAny_compStart_list loop (T.self _ 0 _ _ _ st4 loop)
theorem pe_comp {NX:List Str} {outer:Scope} (hc:X.calm=true) (hi:PI X tg iter wi) (C:CompFr X NX outer scope N fr)
  (hg:∀ fp s H,PG (Yp X scope N fp s H) tg (g fp s H)) (ht:∀ fp s H,PTs (Yp X scope N fp s H) ifs (tt fp s H)) (he:∀ fp s H,PE (Yp X scope N fp s H) elt (te fp s H))
  (hs:∀ x,foldedSetIterable iter X.env x=pure x:=by intro _; rfl):PE X (.ListComp elt [⟨tg,iter,ifs,0⟩] scope pos) (tComp wi fr g tt te):=by
 intro pins s σ H Q I h
 have C:=C.ok I.ok
 rw [eval_ListComp]
 refine wpAny_comprehension_free (use:=none) rfl hs C.clos C.kind C.names (Y9 (hi pins s σ H _ I h) fun v s1 h1=>Y9 h1 fun itv s2 h2=>?_)
 obtain ⟨it,fp,tn,J,H2,e,I2,T,st2,f2,hW⟩:=h2
 subst e
 refine comp_run (RR:=fun acc Cc=>compPost (model X.prog X.w) X.A X.xe none (EP X pins σ Q) acc Cc) hc C hg ht he I2 T st2 f2 hW ?_
 intro D Cc s' fl H' m I' f0 f1 f2' f3 f4 f5 hns fi
 refine ⟨m,hns,fun h' sb=>?_⟩
 exact ⟨.ref D,H',I'.turned (t':=s'.toks) (fun b o hb e=>(sb.2 b hb).trans e) f0 f1 (.inr f3) f4 f5,rfl,fi⟩
theorem ps_setComp {NX:List Str} {outer:Scope} {i:Nat} {x:Str} {pos' pos2:Pos} (hN:X.N.Nodup) (hix:X.N[i]?=some x) (hx:Loc X.env.scope x) (hc:X.calm=true) (hi:PI X tg iter wi) (C:CompFr X NX outer scope N fr)
  (hg:∀ fp s H,PG (Yp X scope N fp s H) tg (g fp s H)) (ht:∀ fp s H,PTs (Yp X scope N fp s H) ifs (tt fp s H)) (he:∀ fp s H,PE (Yp X scope N fp s H) elt (te fp s H))
  (hsw:swapsWith (.ListComp elt [⟨tg,iter,ifs,0⟩] scope pos) (some (.Name x pos')) pos2.line X.env=pure true:=by rfl)
  (hs:∀ x,foldedSetIterable iter X.env x=pure x:=by intro _; rfl) (hf:X.fn x=true\/X.env.scope.names.lookup x=some .local:=by first | exact .inl rfl | exact .inr rfl | assumption) :
  PS X (.Assign [.Name x pos'] (.ListComp elt [⟨tg,iter,ifs,0⟩] scope pos) pos2) (tAsg (tComp wi fr g tt te) (gName i)):=by
 intro pins s σ H Dd I h
 have C:=C.ok I.ok
 rw [exec_Assign_Name_used _ _ _ _ hsw]
 refine wpAny_bind (wpAny_standAt (wpAny_bind ?_))
 show wpAny _ X.A (do let _ <-comprehension (.ListComp elt [⟨tg,iter,ifs,0⟩] scope pos) scope X.env _ (newList []) false (eval iter X.env) (some (assign (.Name x pos') X.env))) _ _ s
 refine wpAny_bind (wpAny_mono (wpAny_comprehension_free (use:=some (assign (.Name x pos') X.env)) (Q:=fun _ s'=>SP X pins Dd .next s') rfl hs C.clos C.kind C.names
  (Y9 (hi pins s σ H _ I h) fun v s1 h1=>Y9 h1 fun itv s2 h2=>?_)) (fun _ s' hq=>wpAny_pure (wpAny_pure hq)) fun _ _ e=>e)
 obtain ⟨it,fp,tn,J,H2,e,I2,T,st2,f2,hW⟩:=h2
 subst e
 refine comp_run (RR:=fun acc Cc=>compPost (model X.prog X.w) X.A X.xe (some (assign (.Name x pos') X.env)) (fun _ s'=>SP X pins Dd .next s') acc Cc) hc C hg ht he I2 T st2 f2 hW ?_
 intro D Cc s' fl H' m I' f0 f1 f2' f3 f4 f5 hns fi
 show wpAny _ X.A (assign (.Name x pos') X.env (.ref D)) _ _ _
 refine wpAny_assign_Name (store_ok2 (v:=.ref D) I' hN hix hx rfl (fun s3 I3 ⟨a,sb,ha⟩=>?_) hf)
 have na:Cc≠a:=by
  rcases ha with z | z
  ·rw [z]; exact f1
  ·exact fun q=>f4 x a z q.symm
 refine ⟨m,hns.sameBut sb na,fun h' sb'=>?_⟩
 exact ⟨_,H',I3.turned (t':=s3.toks) (fun b o hb e=>(sb'.2 b hb).trans e) f0 f1 (.inr f3) f4 f5,fi⟩
end
theorem comp_tup {K:PySem.W.Frag} {a D:Addr} {xs:List V} {g:TG} {tt:TT} {te:TE} {fin:Hp->Prop} {σ0:St} {H0:Hp} (Pv:Nat->List V->St->Hp->Prop) (h0:Pv 0 [] σ0 H0)
  (hq:∀ i ys σ H,i<=xs.length->Pv i ys σ H->Z6 K H a xs/\H D=some (.lst ys))
  (hs:∀ i x ys σ H,xs[i]?=some x->Pv i ys σ H->g x σ H fun σ2 H2=>tt σ2 H2 fun ok H3=>if ok=true then te σ2 H3 fun y H4=>H4 D=some (.lst ys)/\ys.length<sizeLine/\Pv (i+1) (ys++[y]) σ2 (Z3 H4 D (.lst (ys++[y]))) else Pv (i+1) ys σ2 H3)
  (hd:∀ ys σ H,Pv xs.length ys σ H->fin H):∃ W:Nat->Nat->List V->St->Hp->Prop,(∃ m,W 0 m [] σ0 H0)/\CompW (Itt K a) g tt te D W fin:=by
 refine ⟨fun i m ys σ H=>m=xs.length - i/\i<=xs.length/\Pv i ys σ H,⟨xs.length,by simp,Nat.zero_le _,h0⟩, ?_⟩
 rintro i m ys σ H ⟨rfl,hi,p⟩
 obtain ⟨q,hD⟩:=hq i ys σ H hi p
 refine ⟨hD, ?_⟩
 by_cases hlt:i<xs.length
 ·refine .inr ⟨⟨xs,xs[i],q,by simp [hlt]⟩,Pv (i+1),fun ys' σ' H' p'=>⟨xs.length - (i+1),by omega,rfl,hlt,p'⟩,fun x H' y=>?_⟩
  obtain ⟨e,y⟩:=y
  subst e
  exact hs i x ys σ _ (y xs q) p
 ·have e:i=xs.length:=by omega
  subst e
  exact .inl ⟨⟨xs,q,Nat.le_refl _⟩,hd ys σ H p⟩
theorem Vz {K:PySem.W.Frag} {a D:Addr} {xs:List V} {g:TG} {tt:TT} {te:TE} {fin:Hp->Prop} {σ0:St} {H0:Hp} (Pv:Nat->List V->St->Hp->Prop) (h0:Pv 0 [] σ0 H0)
  (hq:∀ i ys σ H,i<=xs.length->Pv i ys σ H->Z0 K H a xs/\H D=some (.lst ys))
  (hs:∀ i x ys σ H,xs[i]?=some x->Pv i ys σ H->g x σ H fun σ2 H2=>tt σ2 H2 fun ok H3=>if ok=true then te σ2 H3 fun y H4=>H4 D=some (.lst ys)/\ys.length<sizeLine/\Pv (i+1) (ys++[y]) σ2 (Z3 H4 D (.lst (ys++[y]))) else Pv (i+1) ys σ2 H3)
  (hd:∀ ys σ H,Pv xs.length ys σ H->fin H):∃ W:Nat->Nat->List V->St->Hp->Prop,(∃ m,W 0 m [] σ0 H0)/\CompW (Itl K a) g tt te D W fin:=by
 refine ⟨fun i m ys σ H=>m=xs.length - i/\i<=xs.length/\Pv i ys σ H,⟨xs.length,by simp,Nat.zero_le _,h0⟩, ?_⟩
 rintro i m ys σ H ⟨rfl,hi,p⟩
 obtain ⟨q,hD⟩:=hq i ys σ H hi p
 refine ⟨hD, ?_⟩
 by_cases hlt:i<xs.length
 ·refine .inr ⟨⟨xs,xs[i],q,by simp [hlt]⟩,Pv (i+1),fun ys' σ' H' p'=>⟨xs.length - (i+1),by omega,rfl,hlt,p'⟩,fun x H' y=>?_⟩
  obtain ⟨e,y⟩:=y
  subst e
  exact hs i x ys σ _ (y xs q) p
 ·have e:i=xs.length:=by omega
  subst e
  exact .inl ⟨⟨xs,q,Nat.le_refl _⟩,hd ys σ H p⟩
theorem comp_range {lo:Int} {n:Nat} {D:Addr} {g:TG} {tt:TT} {te:TE} {fin:Hp->Prop} {σ0:St} {H0:Hp} (Pv:Nat->List V->St->Hp->Prop) (h0:Pv 0 [] σ0 H0)
  (hq:∀ i ys σ H,i<=n->Pv i ys σ H->H D=some (.lst ys))
  (hs:∀ i ys σ H,i<n->Pv i ys σ H->g (.int (lo+i)) σ H fun σ2 H2=>tt σ2 H2 fun ok H3=>if ok=true then te σ2 H3 fun y H4=>H4 D=some (.lst ys)/\ys.length<sizeLine/\Pv (i+1) (ys++[y]) σ2 (Z3 H4 D (.lst (ys++[y]))) else Pv (i+1) ys σ2 H3)
  (hd:∀ ys σ H,Pv n ys σ H->fin H):∃ W:Nat->Nat->List V->St->Hp->Prop,(∃ m,W 0 m [] σ0 H0)/\CompW (Itr lo n) g tt te D W fin:=by
 refine ⟨fun i m ys σ H=>m=n - i/\i<=n/\Pv i ys σ H,⟨n,by simp,Nat.zero_le _,h0⟩, ?_⟩
 rintro i m ys σ H ⟨rfl,hi,p⟩
 refine ⟨hq i ys σ H hi p, ?_⟩
 by_cases hlt:i<n
 ·refine .inr ⟨hlt,Pv (i+1),fun ys' σ' H' p'=>⟨n - (i+1),by omega,rfl,hlt,p'⟩,fun x H' y=>?_⟩
  obtain ⟨e,y⟩:=y
  subst e y
  exact hs i ys σ _ hlt p
 ·have e:i=n:=by omega
  subst e
  exact .inl ⟨Nat.le_refl _,hd ys σ H p⟩
end L2
namespace SetM
open PySem
def Ris (xs:Array Nat):Prop:=∀ a b (h:a<b) (hb:b<xs.size),xs[a]'(Nat.lt_trans h hb)<xs[b]
theorem getD_in {xs:Array Nat} {i d:Nat} (h:i<xs.size):xs.getD i d=xs[i]:=by simp [Array.getD,h]
theorem go_spec {xs:Array Nat} {j:Nat} (hr:Ris xs):∀ (fuel lo hi:Nat),hi - lo<=fuel->lo<=hi->hi<=xs.size->(∀ i (h:i<xs.size),i<lo->xs[i]<j)->(∀ i (h:i<xs.size),hi<=i->j<=xs[i]) ->
  (∀ i (h:i<xs.size),i<SetTable.below.go xs j fuel lo hi->xs[i]<j)/\(∀ i (h:i<xs.size),SetTable.below.go xs j fuel lo hi<=i->j<=xs[i])/\SetTable.below.go xs j fuel lo hi<=xs.size
 | 0,lo,hi,hf,hl,hs,h1,h2=>by
  have e:lo=hi:=by omega
  subst e
  simp only [SetTable.below.go]
  exact ⟨h1,h2,hs⟩
 | fuel+1,lo,hi,hf,hl,hs,h1,h2=>by
  simp only [SetTable.below.go]
  by_cases h:lo<hi
  ·rw [if_pos h]
   have hm:(lo+hi) / 2<xs.size:=by omega
   rw [getD_in hm]
   by_cases hc:xs[(lo+hi) / 2]<j
   ·rw [if_pos hc]
    refine go_spec hr fuel _ _ (by omega) (by omega) hs (fun i hi' hlt=>?_) h2
    rcases Nat.lt_or_ge i ((lo+hi) / 2) with z | z
    ·exact Nat.lt_trans (hr i _ z hm) hc
    ·have e:i=(lo+hi) / 2:=by omega
     subst e; exact hc
   ·rw [if_neg hc]
    refine go_spec hr fuel _ _ (by omega) (by omega) (by omega) h1 (fun i hi' hle=>?_)
    rcases Nat.lt_or_ge ((lo+hi) / 2) i with z | z
    ·have:=hr _ i z hi'; omega
    ·have e:i=(lo+hi) / 2:=by omega
     subst e; omega
  ·rw [if_neg h]
   have e:lo=hi:=by omega
   subst e
   exact ⟨h1,h2,hs⟩
theorem below_spec {xs:Array Nat} {j:Nat} (hr:Ris xs):(∀ i (h:i<xs.size),i<SetTable.below xs j->xs[i]<j)/\(∀ i (h:i<xs.size),SetTable.below xs j<=i->j<=xs[i])/\SetTable.below xs j<=xs.size :=
 go_spec hr xs.size 0 xs.size (by omega) (by omega) (Nat.le_refl _) (fun i _ h=>by omega) (fun i h h'=>by omega)
theorem below_next {xs:Array Nat} (hr:Ris xs) {i:Nat} (h:i<xs.size):SetTable.below xs (xs[i]+1)=i+1:=by
 obtain ⟨h1,h2,h3⟩:=below_spec (j:=xs[i]+1) hr
 rcases Nat.lt_trichotomy (SetTable.below xs (xs[i]+1)) (i+1) with z | z | z
 ·have:=h2 i h (by omega); omega
 ·exact z
 ·have hi:i+1<xs.size:=by omega
  have:=h1 (i+1) hi z
  have:=hr i (i+1) (by omega) hi
  omega
theorem below_zero {xs:Array Nat} (hr:Ris xs):SetTable.below xs 0=0:=by
 obtain ⟨h1,h2,h3⟩:=below_spec (j:=0) hr
 rcases Nat.eq_zero_or_pos (SetTable.below xs 0) with z | z
 ·exact z
 ·have:=h1 0 (by omega) z; omega
theorem ris_range (n:Nat):Ris (Array.range n):=fun a b h hb=>by simp; omega
theorem insert_get {xs:Array Nat} {p j:Nat} (hp:p<=xs.size):∀ i,(SetTable.insertAt xs p j)[i]?=if i<p then xs[i]? else if i=p then some j else xs[i - 1]?:=by
 intro i
 unfold SetTable.insertAt
 have hs1:((xs.extract 0 p).push j).size=p+1:=by simp; omega
 rw [Array.getElem?_append,hs1]
 by_cases h1:i<p+1
 ·rw [if_pos h1,Array.getElem?_push]
  have hs2:(xs.extract 0 p).size=p:=by simp; omega
  rw [hs2]
  by_cases h2:i=p
  ·rw [if_pos h2,if_neg (by omega),if_pos h2]
  ·rw [if_neg h2,if_pos (by omega)]
   rw [Array.getElem?_extract]
   simp
   omega
 ·rw [if_neg h1,if_neg (by omega),if_neg (by omega)]
  rw [Array.getElem?_extract]
  have e:p+(i - (p+1))=i - 1:=by omega
  rw [e]
  simp
  intro h
  omega
theorem insert_size {α:Type} {xs:Array α} {p:Nat} {j:α} (hp:p<=xs.size):(SetTable.insertAt xs p j).size=xs.size+1:=by
 unfold SetTable.insertAt
 simp
 omega
theorem ris_put {xs:Array Nat} {j:Nat} (hr:Ris xs) (hn:xs[SetTable.below xs j]?≠some j):Ris (SetTable.insertAt xs (SetTable.below xs j) j):=by
 obtain ⟨h1,h2,h3⟩:=below_spec (j:=j) hr
 generalize hk:SetTable.below xs j=k at h1 h2 h3 hn
 have g:=insert_get (xs:=xs) (j:=j) h3
 intro a b hab hb
 rw [insert_size h3] at hb
 have ga:=g a
 have gb:=g b
 have ha':a<(SetTable.insertAt xs k j).size:=by rw [insert_size h3]; omega
 have hb':b<(SetTable.insertAt xs k j).size:=by rw [insert_size h3]; omega
 rw [Array.getElem?_eq_getElem ha'] at ga
 rw [Array.getElem?_eq_getElem hb'] at gb
 have strict:∀ i (h:i<xs.size),k<=i->j<xs[i]:=fun i h hk'=>by
  have hle:=h2 i h hk'
  rcases Nat.lt_or_ge k i with z | z
  ·have hkz:k<xs.size:=by omega
   have:=hr k i z h
   have:=h2 k hkz (Nat.le_refl _)
   omega
  ·have e:i=k:=by omega
   subst e
   rw [Array.getElem?_eq_getElem h] at hn
   have:xs[i]≠j:=fun q=>hn (by rw [q])
   omega
 by_cases a1:a<k
 ·rw [if_pos a1,Array.getElem?_eq_getElem (by omega)] at ga
  have ga':=Option.some.inj ga
  by_cases b1:b<k
  ·rw [if_pos b1,Array.getElem?_eq_getElem (by omega)] at gb
   have gb':=Option.some.inj gb
   rw [ga',gb']
   exact hr a b hab (by omega)
  ·rw [if_neg b1] at gb
   by_cases b2:b=k
   ·rw [if_pos b2] at gb
    have gb':=Option.some.inj gb
    rw [ga',gb']
    exact h1 a (by omega) a1
   ·rw [if_neg b2,Array.getElem?_eq_getElem (by omega)] at gb
    have gb':=Option.some.inj gb
    rw [ga',gb']
    exact hr a (b - 1) (by omega) (by omega)
 ·rw [if_neg a1] at ga
  rw [if_neg (by omega),if_neg (by omega),Array.getElem?_eq_getElem (by omega)] at gb
  have gb':=Option.some.inj gb
  by_cases a2:a=k
  ·rw [if_pos a2] at ga
   have ga':=Option.some.inj ga
   rw [ga',gb']
   exact strict (b - 1) (by omega) (by omega)
  ·rw [if_neg a2,Array.getElem?_eq_getElem (by omega)] at ga
   have ga':=Option.some.inj ga
   rw [ga',gb']
   exact hr (a - 1) (b - 1) (by omega) (by omega)
structure TabI (t:SetTable) (n:Nat):Prop where
 size:t.place.size=n
 dum:t.dummies=#[]
 ris:Ris t.place
 room:n<=t.mask
theorem TabI.fits {t:SetTable} {n:Nat} (h:TabI t n):t.fits n=true:=by
 unfold SetTable.fits SetTable.fill
 rw [h.dum,h.size]
 simp
 exact h.room
theorem tab_fresh (f m:Nat) (led:Bool):TabI (SetTable.fresh f m led) 0:=⟨rfl,rfl,fun a b _ hb=>by simp [SetTable.fresh] at hb,Nat.zero_le _⟩
theorem tab_standIn (t:SetTable) (n:Nat):TabI (t.standIn n) n:=⟨by simp [SetTable.standIn],rfl,ris_range n,by simp [SetTable.standIn]; omega⟩
theorem has_nil (j:Nat):SetTable.has #[] j=false:=by simp [SetTable.has]
theorem tab_orStandIn {t:SetTable} {n:Nat} (hs:t.place.size=n) (hd:t.dummies=#[]) (hr:Ris t.place):TabI (t.orStandIn n) n:=by
 unfold SetTable.orStandIn
 split
 ·rename_i h
  refine ⟨hs,hd,hr, ?_⟩
  unfold SetTable.fits SetTable.fill at h
  rw [hd,hs] at h
  simpa using h
 ·exact tab_standIn t n
theorem probe_empty {t:SetTable} (hd:t.dummies=#[]) {f:Nat->Int} {h:Int} {j:Nat} {dm:Option Nat}:∀ (fuel:Nat) (p:SetTable.Probe),p.dummy=none->SetTable.probe.go t f h fuel p=some (.empty j dm)->dm=none/\t.place[SetTable.below t.place j]?≠some j
 | 0,p,_,e=>by simp [SetTable.probe.go] at e
 | fuel+1,p,hp,e=>by
  have adv:(t.advance p).dummy=none:=by
   unfold SetTable.advance
   split
   ·exact hp
   ·exact hp
  simp only [SetTable.probe.go] at e
  cases hs:t.slot p.j with
  | empty =>
   rw [hs] at e
   simp only [Option.some.injEq,SetTable.Met.empty.injEq] at e
   obtain ⟨e1,e2⟩:=e
   subst e1
   refine ⟨by rw [<-e2,hp],fun q=>?_⟩
   unfold SetTable.slot at hs
   simp [q] at hs
  | dummy =>
   exfalso
   unfold SetTable.slot at hs
   simp only [hd,has_nil] at hs
   split at hs <;> simp at hs
  | live i =>
   rw [hs] at e
   simp only at e
   split at e
   ·simp at e
   ·exact probe_empty hd fuel _ adv e
theorem tab_layNew {t:SetTable} {es:Array (Int × Value)} (h:TabI t es.size) (k:Int) (x:Value):TabI (layNew t es k x).2.1 (layNew t es k x).1.size:=by
 unfold layNew
 cases hf:t.freeSlot k with
 | none =>
  simp only
  have:(es.push (k,x)).size=es.size+1:=by simp
  rw [this]
  exact tab_standIn t _
 | some sw =>
  obtain ⟨slot,wd⟩:=sw
  simp only
  unfold SetTable.freeSlot at hf
  have hn:t.place[SetTable.below t.place slot]?≠some slot:=by
   cases hp:t.probe (fun _=>k+1) k (t.probeStart k) with
   | none=>rw [hp] at hf; simp at hf
   | some m =>
    rw [hp] at hf
    cases m with
    | candidate a b c=>simp at hf
    | empty j dm =>
     obtain ⟨e1,e2⟩:=probe_empty h.dum _ (t.probeStart k) rfl hp
     subst e1
     simp at hf
     rw [<-hf.1]
     exact e2
  obtain ⟨_,_,hb⟩:=below_spec (j:=slot) h.ris
  have hb':SetTable.below t.place slot<=es.size:=by rw [<-h.size]; exact hb
  have e1:(t.put slot).2=SetTable.below t.place slot:=rfl
  refine tab_orStandIn ?_ ?_ ?_
  ·rw [e1,insert_size hb']
   show (SetTable.insertAt t.place (SetTable.below t.place slot) slot).size=es.size+1
   rw [insert_size hb,h.size]
  ·show (if SetTable.has t.dummies slot then _ else t.dummies)=#[]
   rw [h.dum,has_nil]
   rfl
  ·exact ris_put h.ris hn
theorem layNew_led {t:SetTable} {es:Array (Int × Value)} (k:Int) (x:Value):(layNew t es k x).2.1.led=t.led:=by
 unfold layNew
 split
 ·simp only [SetTable.orStandIn]
  split <;> rfl
 ·rfl
theorem range_live (n:Nat) (g:Nat->Option Nat):((List.range n).filterMap fun j=>(g j).map (j, ·)).Pairwise fun a b=>a.1<b.1:=by
 rw [List.pairwise_filterMap]
 refine List.Pairwise.imp ?_ List.pairwise_lt_range
 intro a b hab c hc d hd
 cases ha:g a with
 | none=>rw [ha] at hc; simp at hc
 | some u =>
  cases hb:g b with
  | none=>rw [hb] at hd; simp at hd
  | some v =>
   rw [ha] at hc
   rw [hb] at hd
   simp at hc hd
   rw [<-hc, <-hd]
   exact hab
theorem tab_relayAll {t:SetTable} {es:Array (Int × Value)} (wanted:Nat):TabI (relayAll t es wanted).2.1 (relayAll t es wanted).1.size:=by
 unfold relayAll
 cases hr:t.relaid (es.map (·.1)) wanted with
 | none=>exact tab_standIn t _
 | some to =>
  obtain ⟨t',order⟩:=to
  simp only
  split
  ·rename_i hc
   unfold SetTable.relaid SetTable.laid at hr
   cases hl:SetTable.layClean (SetTable.sizeAbove wanted - 1) (es.map (·.1)) with
   | none=>rw [hl] at hr; simp at hr
   | some owner =>
    rw [hl] at hr
    simp at hr
    obtain ⟨h1,h2⟩:=hr
    have hfit:=(Bool.and_eq_true_iff.mp hc).2
    have hd:t'.dummies=#[]:=by rw [<-h1]
    refine ⟨?_,hd, ?_, ?_⟩
    ·unfold SetTable.fits at hfit
     simp at hfit
     exact hfit.1
    ·rw [<-h1]
     intro a b hab hb
     have hp:=range_live (SetTable.sizeAbove wanted - 1+1) (fun j=>owner[j]?.getD none)
     have hp2:(((List.range (SetTable.sizeAbove wanted - 1+1)).filterMap fun j=>(owner[j]?.getD none).map (j, ·)).map fun p=>p.1).Pairwise (· < ·):=List.pairwise_map.mpr hp
     simp only [List.getElem_toArray]
     exact List.pairwise_iff_getElem.mp hp2 a b _ _ hab
    ·unfold SetTable.fits SetTable.fill at hfit
     rw [hd] at hfit
     simp at hfit
     exact (hfit.1 ▸ hfit.2:_)
  ·exact tab_standIn t _
theorem relayAll_led {t:SetTable} {es:Array (Int × Value)} (wanted:Nat):(relayAll t es wanted).2.1.led=t.led:=by
 unfold relayAll
 cases hr:t.relaid (es.map (·.1)) wanted with
 | none=>rfl
 | some to =>
  obtain ⟨t',order⟩:=to
  simp only
  split
  ·unfold SetTable.relaid SetTable.laid at hr
   cases hl:SetTable.layClean (SetTable.sizeAbove wanted - 1) (es.map (·.1)) with
   | none=>rw [hl] at hr; simp at hr
   | some owner =>
    rw [hl] at hr
    simp at hr
    rw [<-hr.1]
  ·rfl
theorem paired_perm {α β:Type} {F:α->β->Prop} {l l':List β} (p:l'.Perm l):∀ {ks:List α},Paired F ks l->∃ ks',Paired F ks' l'/\ks'.Perm ks:=by
 induction p with
 | nil=>intro ks h; cases h; exact ⟨[],.nil,.nil⟩
 | cons x p ih =>
  intro ks h
  cases h with
  | cons r t =>
   obtain ⟨ks',h1,h2⟩:=ih t
   exact ⟨_::ks',.cons r h1,h2.cons _⟩
 | swap x y l =>
  intro ks h
  cases h with
  | cons r t =>
   cases t with
   | cons r' t'=>exact ⟨_::_::_,.cons r' (.cons r t'),.swap _ _ _⟩
 | trans p1 p2 ih1 ih2 =>
  intro ks h
  obtain ⟨k1,h1,h2⟩:=ih2 h
  obtain ⟨k2,h3,h4⟩:=ih1 h1
  exact ⟨k2,h3,h4.trans h2⟩
theorem paired_mem {α β:Type} {F:α->β->Prop}:∀ {ks:List α} {l:List β},Paired F ks l->∀ k∈ks,∃ e∈l,F k e
 | _,_,.nil,k,h=>by cases h
 | _,_,.cons r t,k,h=>by
  rcases List.mem_cons.mp h with z | z
  ·subst z; exact ⟨_,List.mem_cons_self,r⟩
  ·obtain ⟨e,h1,h2⟩:=paired_mem t k z
   exact ⟨e,List.mem_cons_of_mem _ h1,h2⟩
theorem paired_mem' {α β:Type} {F:α->β->Prop}:∀ {ks:List α} {l:List β},Paired F ks l->∀ e∈l,∃ k∈ks,F k e
 | _,_,.nil,k,h=>by cases h
 | _,_,.cons r t,k,h=>by
  rcases List.mem_cons.mp h with z | z
  ·subst z; exact ⟨_,List.mem_cons_self,r⟩
  ·obtain ⟨e,h1,h2⟩:=paired_mem' t k z
   exact ⟨e,List.mem_cons_of_mem _ h1,h2⟩
section
variable {prog:Program} {w:World} {K:Type} [DecidableEq K] (knd:KeyKind prog w K)
structure SetO (o:Obj) (ks:List K):Prop where
 ex:o.ExactSet
 dat:∃ es ep t,o.data=.set es ep t/\ElemsOf knd es.toList/\Paired (fun k (e:Int × Value)=>knd.is k e.2=true) ks es.toList/\es.size<scanBound/\TabI t es.size/\t.led=!(w.params.followText "set-order")
 nd:ks.Nodup
def SetG (h:Heap) (a:Addr) (ks:List K):Prop:=∃ o,h.get? a=some o/\SetO knd o ks
variable {knd} {A:Around} {E:Value->Shared->Prop} {s:Shared} {a:Addr}
theorem SetO.len {o:Obj} {ks:List K} (h:SetO knd o ks):ks.length<scanBound:=by
 obtain ⟨es,ep,t,_,_,p,b,_⟩:=h.dat
 rw [p.length,Array.length_toList]
 exact b
theorem store_back {o:Obj} {es es':Array (Int × Value)} {ep:Nat} {t t':SetTable} {ks':List K} {h:Heap} (ho:h.get? a=some o) (hex:o.ExactSet) (hd:o.data=.set es ep t) (el:ElemsOf knd es'.toList)
  (pr:Paired (fun k (e:Int × Value)=>knd.is k e.2=true) ks' es'.toList) (hb:es'.size<scanBound) (ti:TabI t' es'.size) (hl:t'.led=!(w.params.followText "set-order")) (nd:ks'.Nodup) :
  (h.update a (Obj.putSet es' t')).get? a=some { o with data:=.set es' (ep+1) t' }/\SetO knd { o with data:=.set es' (ep+1) t' } ks':=by
 have mem:∀ k',(decide (k'∈ks'))=true ↔ ∃ e∈es'.toList,knd.is k' e.2=true:=fun k'=>by
  rw [decide_eq_true_eq]
  constructor
  ·exact fun hk=>paired_mem pr k' hk
  ·rintro ⟨e,he,hq⟩
   obtain ⟨k2,h1,h2⟩:=paired_mem' pr e he
   rw [knd.inj e.2 k' k2 hq h2]
   exact h1
 obtain ⟨e1,o2,es2,ep2,t2,e2,ex2,d2,_⟩:=SetOf_store (knd:=knd) ho hex hd el mem hb ti.fits
 rw [e1] at e2
 cases e2
 exact ⟨e1,⟨ex2,⟨es',ep+1,t',rfl,el,pr,hb,ti,hl⟩,nd⟩⟩
theorem set_add {ks:List K} {k:K} {x:Value} {Q:Bool->Shared->Prop} (hkey:knd.is k x=true) (hsc:x.scannable=true) (hS:SetG knd s.heap a ks) (hroom:ks.length+1<scanBound)
  (h:∀ h' ks',Heap.SameBut a s.heap h'->SetG knd h' a ks'->ks'.Perm (if k∈ks then ks else ks++[k])->Q (!decide (k∈ks)) { s with heap:=h' }) :
  wpAny (model prog w) A (setAddHashed a x (knd.hash k)) Q E s:=by
 obtain ⟨o,ho,S⟩:=hS
 obtain ⟨es,ep,t,hd,hel,pr,hb,ti,hled⟩:=S.dat
 have hlen:ks.length=es.size:=by rw [pr.length,Array.length_toList]
 unfold setAddHashed setAddHashedIn
 refine wpAny_holding (wpAny_bind (wpAny_setState_of ho hd ti.fits ?_))
 dsimp only
 rw [byScan_of hsc hb hel]
 simp only [↓reduceIte]
 unfold setAddByScan
 refine wpAny_bind (wpAny_bind (wpAny_rule (wpAny_bind (wpAny_setScan_of hkey ho hd ti.fits hel ?_))))
 cases hr:List.findIdx? (fun e=>knd.is k e.2) es.toList with
 | some j =>
  dsimp only
  obtain ⟨hj,hpj,_⟩:=List.findIdx?_eq_some_iff_getElem.mp hr
  have hk:k∈ks:=by
   obtain ⟨k2,h1,h2⟩:=paired_mem' pr _ (List.getElem_mem hj)
   rw [knd.inj _ k k2 hpj h2]
   exact h1
  have q:=h s.heap ks (Heap.SameBut.refl a s.heap) ⟨o,ho,S⟩ (by rw [if_pos hk])
  rw [decide_eq_true hk] at q
  exact wpAny_pure (wpAny_pure q)
 | none =>
  dsimp only
  have hk:k ∉ ks:=fun hm=>by
   obtain ⟨e,he,hq⟩:=paired_mem pr k hm
   have z:=List.findIdx?_eq_none_iff.mp hr e he
   rw [hq] at z
   cases z
  have gw:∀ (b:Bool) {s₁:Shared} {Q':Unit->Shared->Prop},Q' () s₁->wpAny (model prog w) A (match b with | true=>rule "set.scan.the-table-gave-way" | false=>pure ()) Q' E s₁ :=
   fun b s₁ Q' hq=>by cases b <;> first | exact wpAny_pure hq | exact wpAny_rule hq
  have perm0:=layNew_perm t es (knd.hash k) x
  have tab1:=tab_layNew (t:=t) ti (knd.hash k) x
  have led1:=layNew_led (t:=t) (es:=es) (knd.hash k) x
  generalize hL:layNew t es (knd.hash k) x=L at perm0 tab1 led1 ⊢
  obtain ⟨es1,t1,wasDummy,gave⟩:=L
  dsimp only at perm0 tab1 led1 ⊢
  rw [Array.toList_push] at perm0
  have el1:ElemsOf knd es1.toList:=(hel.push hkey hsc).perm perm0
  have pr0:Paired (fun k (e:Int × Value)=>knd.is k e.2=true) (ks++[k]) (es.toList++[(knd.hash k,x)]):=Paired.snoc pr hkey
  obtain ⟨ks1,pr1,pk1⟩:=paired_perm perm0 pr0
  have nd1:ks1.Nodup:=pk1.nodup_iff.mpr (List.nodup_append.mpr ⟨S.nd,List.nodup_cons.mpr ⟨by simp,List.nodup_nil⟩,fun u hu v hv=>by
   rw [List.mem_singleton.mp hv]; exact fun z=>hk (z ▸ hu)⟩)
  have sz1:es1.size=es.size+1:=by
   have:=perm0.length_eq
   rw [List.length_append,Array.length_toList,Array.length_toList] at this
   simpa using this
  have hb1:es1.size<scanBound:=by omega
  refine wpAny_bind (gw _ ?_)
  have tailOk:∀ t2:SetTable,TabI t2 es1.size->t2.led=t.led->wpAny (model prog w) A (do
    storeSet a es1 t2
    if (!wasDummy && t2.tooFull)=true then do
      (match (relayAll t2 es1 (SetTable.grown es1.size)).2.2 with | true=>rule "set.scan.the-table-gave-way" | false=>pure ())
      storeSet a (relayAll t2 es1 (SetTable.grown es1.size)).1 (relayAll t2 es1 (SetTable.grown es1.size)).2.1
      pure (some true)
     else pure (some true)) (fun b s'=>b=some true/\∃ h' ks',s'={ s with heap:=h' }/\Heap.SameBut a s.heap h'/\SetG knd h' a ks'/\ks'.Perm (ks++[k])) E s:=by
   intro t2 ti2 hl2
   refine wpAny_bind (wpAny_storeSet_of ho hd ?_ (fits_of_scanBound hb1))
   obtain ⟨g1,S1⟩:=store_back (knd:=knd) ho S.ex hd el1 pr1 hb1 ti2 (hl2.trans hled) nd1
   have sb1:=Heap.SameBut.update s.heap a (Obj.putSet es1 t2)
   split
   ·have hp:=relayAll_perm t2 es1 (SetTable.grown es1.size)
    have ti3:=tab_relayAll (t:=t2) (es:=es1) (SetTable.grown es1.size)
    have led3:=relayAll_led (t:=t2) (es:=es1) (SetTable.grown es1.size)
    generalize relayAll t2 es1 (SetTable.grown es1.size)=Rl at hp ti3 led3 ⊢
    obtain ⟨es2,t3,gave2⟩:=Rl
    dsimp only at hp ti3 led3 ⊢
    obtain ⟨ks2,pr2,pk2⟩:=paired_perm hp pr1
    have sz2:es2.size=es1.size:=by
     have:=hp.length_eq
     rwa [Array.length_toList,Array.length_toList] at this
    have hb2:es2.size<scanBound:=by omega
    refine wpAny_bind (gw _ ?_)
    refine wpAny_bind (wpAny_storeSet_of g1 rfl ?_ (fits_of_scanBound hb2))
    obtain ⟨g2,S2⟩:=store_back (knd:=knd) g1 S1.ex rfl (el1.perm hp) pr2 hb2 ti3 (led3.trans (hl2.trans hled)) (pk2.nodup_iff.mpr nd1)
    exact wpAny_pure ⟨rfl,_,ks2,rfl,sb1.trans (Heap.SameBut.update _ a _),⟨_,g2,S2⟩,pk2.trans pk1⟩
   ·exact wpAny_pure ⟨rfl,_,ks1,rfl,sb1,⟨_,g1,S1⟩,pk1⟩
  have fin:∀ b s',(b=some true/\∃ h' ks',s'={ s with heap:=h' }/\Heap.SameBut a s.heap h'/\SetG knd h' a ks'/\ks'.Perm (ks++[k])) ->
    wpAny (model prog w) A (match b with | some added=>pure added | none=>setAddHashedIn a x (knd.hash k) 99999) Q E s':=by
   rintro b s' ⟨rfl,h',ks',rfl,sb,g,pk⟩
   have q:=h h' ks' sb g (by rw [if_neg hk]; exact pk)
   rw [decide_eq_false hk] at q
   exact wpAny_pure q
  split
  ·refine wpAny_bind ?_
   rw [hashByValue_scannable 8 hsc]
   refine wpAny_pure ?_
   refine wpAny_mono (tailOk _ ?_ ?_) fin fun _ _ z=>z
   ·split
    ·exact tab1
    ·exact ⟨tab1.size,tab1.dum,tab1.ris,tab1.room⟩
   ·split
    ·exact led1
    ·exact led1
  ·refine wpAny_bind (wpAny_pure ?_)
   simp only [↓reduceIte]
   exact wpAny_mono (tailOk _ tab1 led1) fin fun _ _ z=>z
end
end SetM
namespace SetM
open PySem PyProof.Rows
section
variable {prog:Program} {w:World} {K:Type} [DecidableEq K] {knd:KeyKind prog w K}
theorem SetG.at' {h h':Heap} {a:Addr} {ks:List K} (x:SetG knd h a ks) (e:∀ o,h.get? a=some o->h'.get? a=some o):SetG knd h' a ks:=let ⟨o,ho,S⟩:=x; ⟨o,e o ho,S⟩
structure Upto (val:Nat->K) (i:Nat) (ks:List K):Prop where
 mem:∀ x,x∈ks ↔ ∃ j,j<i/\val j=x
 len:ks.length<=i
theorem Upto.zero (val:Nat->K):Upto val 0 []:=⟨fun x=>⟨fun z=>absurd z List.not_mem_nil,fun ⟨j,z,_⟩=>absurd z (Nat.not_lt_zero _)⟩,Nat.le_refl _⟩
theorem Upto.next {val:Nat->K} {i:Nat} {ks ks':List K} (u:Upto val i ks) (pk:ks'.Perm (if val i∈ks then ks else ks++[val i])):Upto val (i+1) ks':=by
 refine ⟨fun x=>?_, ?_⟩
 ·rw [pk.mem_iff]
  constructor
  ·intro hx
   have hx':x∈ks\/x=val i:=by
    split at hx
    ·exact .inl hx
    ·rcases List.mem_append.mp hx with hx | hx
     ·exact .inl hx
     ·exact .inr (List.mem_singleton.mp hx)
   rcases hx' with hx' | hx'
   ·obtain ⟨j,h1,h2⟩:=(u.mem x).mp hx'
    exact ⟨j,by omega,h2⟩
   ·exact ⟨i,by omega,hx'.symm⟩
  ·rintro ⟨j,h1,h2⟩
   by_cases hx:x∈ks
   ·split
    ·exact hx
    ·exact List.mem_append_left _ hx
   ·have e:j=i:=by
     rcases Nat.lt_or_ge j i with z | z
     ·exact absurd ((u.mem x).mpr ⟨j,z,h2⟩) hx
     ·omega
    subst e
    rw [h2,if_neg hx]
    exact List.mem_append_right _ (List.mem_singleton_self _)
 ·rw [pk.length_eq]
  have:=u.len
  split
  ·omega
  ·simp only [List.length_append,List.length_singleton]
   omega
variable {A:Around} {R:Result->Shared->Prop} {I:Addr} {fp wr:List Addr} {G:Array GenState->Array GenState->Prop} {n:Nat} {P:Nat->Value->Prop} {St:Nat->Shared->Prop}
theorem fill_loop (W:WalksS prog w A.in1 I fp wr G n P St) {a:Addr} (na:a ∉ fp) {val:Nat->K} (hval:∀ i v,P i v->knd.is (val i) v=true/\v.scannable=true) (hb:n+1<scanBound) (i:Nat) (s:Shared) (ks:List K)
  (hi:i<=n) (st:St i s) (hS:SetG knd s.heap a ks) (u:Upto val i ks) (fin:∀ s' ks',Moved (a::wr) G s s'->SetG knd s'.heap a ks'->Upto val n ks'->R (.ok (.ret .none)) s') :
  codeAny (model prog w) A (.builtin "set.update.loop" ⟨[.ref a,.ref I],[]⟩) R s:=by
 have naw:a ∉ wr:=fun z=>na (W.sub _ z)
 have more:∀ b∈wr,b∈a::wr:=fun b z=>List.mem_cons_of_mem _ z
 refine codeAny_builtin PyProof.Rows.F.entry_set_update_loop ?_
 rw [Around.under_plainId PyProof.Rows.F.plain_set_update_loop]
 refine wpAny_bind (m:=pyNext (.ref I)) ?_
 by_cases hlt:i<n
 ·refine W.item i s _ _ hlt st fun v s1 hP st1 mv=>?_
  obtain ⟨hv,hsc⟩:=hval i v hP
  have hS1:SetG knd s1.heap a ks:=hS.at' fun o e=>mv.heap a o naw e
  refine wpAny_bind (m:=holding [v] (setAdd a v)) (wpAny_holding ?_)
  unfold setAdd
  refine wpAny_holding (wpAny_bind (knd.pyHash (k:=val i) hv ?_))
  have:=u.len
  refine set_add (knd:=knd) (s:={ s1 with toks:=s1.toks+1 }) hv hsc hS1 (by omega) fun h2 ks2 sb hS2 pk=>wpAny_pure ⟨plainId_quiet PyProof.Rows.F.plain_set_update_loop _, ?_⟩
  refine fill_loop W na hval hb (i+1) { s1 with heap:=h2,toks:=s1.toks+1 } ks2 hlt (W.frame _ s1 _ _ st1 (Nat.le_succ _) fun b hb' o e=>?_) hS2 (u.next pk) fun s3 ks3 mv3 hS3 u3=>?_
  ·rw [sb.2 b fun z=>na (z ▸ hb')]
   exact e
  ·refine fin s3 ks3 (Moved.trans W.gtrans ((mv.mono more).then_heap (Nat.le_succ _) fun b o hb' e=>?_) mv3) hS3 u3
   rw [sb.2 b fun z=>hb' (z ▸ List.mem_cons_self)]
   exact e
 ·have e:i=n:=by omega
  subst e
  exact W.done s _ _ st fun s1 mv=>wpAny_pure (fin s1 ks (mv.mono more) (hS.at' fun o e=>mv.heap a o naw e) u)
termination_by n - i
end
section
variable {prog:Program} {w:World} {A:Around} {E:Value->Shared->Prop} {s:Shared}
theorem call_class {T newId initId:String} {args:List Value} {Q:Value->Shared->Prop} (ft:TypeCalled T newId initId) (hct:checkTypeCall T ⟨args,[]⟩=pure ())
  (h:codeAny (model prog w) A.in1 (.call (.builtin newId) ⟨.type T::args,[]⟩) (wants (fun obj s1=>s1.TypeIs obj T/\codeAny (model prog w) A.in1 (.call (.builtin initId) ⟨obj::args,[]⟩) (wants (fun r s2=>r=.none/\Q obj s2) E) s1) E) s) :
  wpAny (model prog w) A (call (.type T) args) Q E s:=by
 have q1:=ft.notType
 have q2:=ft.canCreate
 have q3:=ft.made
 have q4:=ft.sub
 obtain ⟨c,tl,q5⟩:=ft.mro
 apply wpAny_call
 apply codeAny_of_tree
 change wpAny (model prog w) _ (callAny (Value.type T) ⟨args,[]⟩) _ _ s
 refine wpAny_pure (And.intro (Code.quiet_builtin _ (by decide +kernel)) (codeAny_builtin PySem.F.entry_type_call ?_))
 rw [Around.under_plain (weight_type_call_type T args []) (units_type_call_type T args [])]
 repeat (any_goals (first | assumption | wp_step))
 refine codeAny_mono h fun r s1 hr=>?_
 rcases r with e | fl
 ·exact hr
 ·cases fl with
  | ret obj =>
   obtain ⟨hT,hI⟩:=hr
   have q6:=ft.init.lookup
   have q7:=ft.init.bind obj
   repeat (any_goals (first | assumption | wp_step))
   refine codeAny_mono hI fun r2 s2 hr2=>?_
   rcases r2 with e2 | fl2
   ·exact hr2
   ·cases fl2 with
    | ret r3 =>
     obtain ⟨rfl,q⟩:=hr2
     repeat (any_goals (first | assumption | wp_step))
    | _=>exact hr2.elim
  | _=>exact hr.elim
abbrev setObj (b:Bool):Obj:={ cls:=.type "set",dict:=none,data:=.set #[] 0 (.fresh 0 0 b) }
theorem new_set (x:Value) {Q1:Value->Shared->Prop} (h:Q1 (.ref s.heap.objs.size) { s with heap:=s.heap.push (setObj (!(w.params.followText "set-order"))) }) :
  codeAny (model prog w) A (.call (.builtin "set.__new__") ⟨[.type "set",x],[]⟩) (wants Q1 E) s:=by
 have q:=sub_set_self
 refine codeAny_call_builtin PySem.F.plain_set_new PySem.F.entry_set_new (wpAny_of_eq (PySem.F.newCall_set_1 x) ?_)
 unfold Builtin.«set.__new__» Builtin.Frozenset.newClass
 obtain ⟨hp,gs,dr,tk,so⟩:=s
 dsimp only
 wp_walk
 refine wpAny_askSetting (wpAny_pure ?_)
 dsimp only
 simp only [newObj]
 exact wpAny_bind (wpAny_alloc (wpAny_pure (wpAny_pure h)))
variable {K:Type} [DecidableEq K] {knd:KeyKind prog w K}
set_option maxHeartbeats 4000000 in
theorem call_set {l:Addr} {xs:Array Value} {val:Nat->K} {Q:Value->Shared->Prop} (hh:A.handled=none) (hl:s.heap.IsList l xs) (hx:∀ i v,xs[i]?=some v->knd.is (val i) v=true/\v.scannable=true) (hb:xs.size+1<scanBound)
  (fin:∀ (h1:Heap) (tk:Nat) (ks:List K),SetG knd h1 s.heap.objs.size ks->Upto val xs.size ks->(∀ b o,s.heap.get? b=some o->h1.get? b=some o)->Q (.ref s.heap.objs.size) { s with heap:=h1,toks:=tk }) :
  wpAny (model prog w) A (call (.type "set") [.ref l]) Q E s:=by
 refine call_class PySem.F.called_set (PySem.F.typeCall_set_1 (.ref l)) (new_set (.ref l) ?_)
 generalize hb0:(!(w.params.followText "set-order"))=b0
 have at0:(s.heap.push (setObj b0)).get? s.heap.objs.size=some (setObj b0):=Heap.get?_push_size _ rfl
 have ty0:Shared.TypeIs { s with heap:=s.heap.push (setObj b0) } (.ref s.heap.objs.size) "set" := ⟨_,at0,rfl⟩
 refine ⟨ty0,codeAny_call_builtin PySem.F.called_set.init.plain PySem.F.entry_set_init (check_set_init_1 ty0 ?_)⟩
 obtain ⟨⟨c0,d0,dt0,sl0⟩,e0,hc0,n0,hd0⟩:=hl
 simp only at hc0 hd0
 subst hc0 hd0
 have e1:(s.heap.push (setObj b0)).get? l=some ⟨.type "list",d0,.seq xs n0,sl0⟩:=Heap.get?_push_of_some _ e0
 have li:(s.heap.push (setObj b0)).IsList l xs:=⟨_,e1,rfl,n0,rfl⟩
 have u1:=PySem.F.sub_list_set
 have u2:=PySem.F.sub_list_frozenset
 have u3:(Value.type "list" == Value.type "dict")=false:=by decide
 unfold Builtin.«set.__init__» noKeywords Builtin.Frozenset.updateFrom
 generalize hit:pyIter=it
 wp_walk
 subst hit
 have lt0:l<s.heap.objs.size:=Heap.lt_size e0
 have sz:(s.heap.push (setObj b0)).objs.size=s.heap.objs.size+1:=Heap.size_push _ _
 refine wpAny_pyIter_list li (wpAny_bind (wpAny_runValue ?_))
 refine fill_loop (knd:=knd) (val:=val) ((Walks.list (by simp [hh]) _ l (by rw [sz]; exact Nat.ne_of_lt (Nat.lt_succ_of_lt lt0)) xs).toS) (fun z=>(List.mem_cons.mp z).elim (fun z=>absurd z (Nat.ne_of_lt (by rw [sz]; exact Nat.lt_succ_self _))) fun z=>absurd (List.mem_singleton.mp z) (Nat.ne_of_gt lt0)) hx hb 0 _ [] (Nat.zero_le _) ⟨⟨_,Heap.get?_push_size _ rfl,rfl,rfl⟩,li.push _⟩
  ⟨_,Heap.get?_push_of_some _ at0,⟨⟨rfl,rfl,rfl⟩,⟨#[],0,_,rfl,fun e he=>by simp at he,.nil,by unfold scanBound; decide,tab_fresh _ _ _,hb0.symm⟩,List.nodup_nil⟩⟩ (Upto.zero val) ?_
 rintro ⟨h2,g2,d2,tk2,o2⟩ ks mv S2 u
 have x1:g2=s.gens:=mv.gens
 have x2:d2=s.drawn:=mv.drawn
 have x3:o2=s.os:=mv.os
 subst x1 x2 x3
 refine wpAny_pure (wpAny_pure ⟨rfl,fin h2 tk2 ks S2 u fun b o e=>mv.heap b o ?_ (Heap.get?_push_of_some _ (Heap.get?_push_of_some _ e))⟩)
 have lb:=Heap.lt_size e
 intro z
 rcases List.mem_cons.mp z with z | z
 ·exact absurd z (Nat.ne_of_lt lb)
 ·have z:=List.mem_singleton.mp z
  rw [sz] at z
  exact absurd z (Nat.ne_of_lt (Nat.lt_succ_of_lt lb))
end
theorem si_next:Slot "set_iterator" "__next__" "set_iterator.__next__" :=
 Slot.of (owner:="set_iterator") (n:="__next__") (by rw [typeLookup_type,builtinLookup_eq_fast]; kernel_rfl) (by decide +kernel) (by decide +kernel) (by decide +kernel) (.inl (by decide +kernel)) (by rw [isSubtype_type]; kernel_rfl)
theorem si_entry:entryFor table "set_iterator.__next__" = some Builtin.«set_iterator.__next__»:=entryFor_of_tree (by kernel_rfl)
theorem si_args (a:Value):argsOk "set_iterator.__next__" ⟨[a],[]⟩:=by unfold argsOk; kernel_rfl
theorem set_iter_entry:entryFor table "set.__iter__" = some Builtin.«frozenset.__iter__»:=entryFor_alias (id':="frozenset.__iter__") (by kernel_rfl) rfl (by decide +kernel) (by kernel_rfl)
theorem erase_perm {α:Type}:∀ (l:List α) (i:Nat) (h:i<l.length),(l[i]::l.eraseIdx i).Perm l
 | x::l,0,h=>.refl _
 | x::l,i+1,h=>by
  have ih:=erase_perm l i (by simpa using h)
  simp only [List.getElem_cons_succ,List.eraseIdx_cons_succ]
  exact (List.Perm.swap _ _ _).trans (ih.cons x)
theorem drawOrder_ok {prog:Program} {w:World} {A:Around} {E:Value->Shared->Prop} {α:Type}:∀ (n:Nat) (xs:List α) (s:Shared) (Q:List α->Shared->Prop),xs.length=n->(∀ ys d,ys.Perm xs->Q ys { s with drawn:=d })->wpAny (model prog w) A (drawOrder n xs) Q E s
 | 0,xs,s,Q,hn,h=>by
  have e:xs=[]:=List.length_eq_zero_iff.mp hn
  subst e
  have q:=h [] s.drawn .nil
  exact wpAny_pure q
 | n+1,xs,s,Q,hn,h=>by
  cases xs with
  | nil=>simp at hn
  | cons x0 xr =>
   generalize hx:x0::xr=xs at hn h ⊢
   have e:drawOrder (n+1) xs=(choose .order xs.length >>= fun i=>match xs[i]? with | some x=>(drawOrder n (xs.eraseIdx i) >>= fun r=>pure (x::r)) | none=>unsupported "internal:drawOrder"):=by
    subst hx; rfl
   rw [e]
   refine wpAny_bind ?_
   intro Γ p hΓ
   show Sem.wp _ _ (.choose _ _ _) _ _ _ _
   rw [Sem.wp_choose]
   refine ⟨by omega, ?_⟩
   have lt:=Nat.mod_lt ((model prog w).w.draws .order (s.drawn.get .order)) (show xs.length>0 by omega)
   generalize (model prog w).w.draws .order (s.drawn.get .order) % xs.length=i at lt ⊢
   rw [Sem.wp_pure]
   have ex:xs[i]?=some xs[i]:=List.getElem?_eq_getElem lt
   dsimp only
   rw [ex]
   refine wpAny_bind (drawOrder_ok n (xs.eraseIdx i) _ _ (by rw [List.length_eraseIdx_of_lt lt]; omega) fun ys d hp=>wpAny_pure (h _ _ ((hp.cons _).trans (erase_perm xs i lt))))
inductive Fst (w:World) (a:Addr) (es:Array (Int × Value)) (ep:Nat) (t:SetTable) (h:Heap):Nat->Value->List Value->Prop where
 | byText {i:Nat} {k:Int} {tk:Tok}:w.params.followText "set-order" = true->Fst w a es ep t h i (.int k tk) ((pickOrder (w.params.setOrder a ep) es).toList.map (·.2))
 | drawn {i:Nat} {T:Addr} {c:Nat} {ps:List Nat}:ps.Perm (List.range es.size)->h.get? T=some { cls:=.type "tuple",data:=.seq (ps.map fun (p:Nat)=>rawInt p).toArray c } ->
   Fst w a es ep t h i (.ref T) (ps.map fun p=>(es.getD p (0,.none)).2)
 | plain {i:Nat} {tk:Tok}:w.params.followText "set-order" = false->(!t.plain && es.size>1)=false->t.led=true->Fst w a es ep t h i (.int (if i=0 then 0 else ((t.place.getD (i - 1) 0+1:Nat):Int)) tk) (es.toList.map (·.2))
abbrev itObj (first:Value) (i:Nat) (a:Addr) (n ep:Nat):Obj:={ cls:=.type "set_iterator",data:=.fields #[first,rawInt i,.ref a,rawInt n,rawInt ep] }
section
variable {prog:Program} {w:World} {A:Around} {E:Value->Shared->Prop} {s:Shared} {a:Addr} {o:Obj} {es:Array (Int × Value)} {ep:Nat} {t:SetTable}
theorem iter_set {Q:Value->Shared->Prop} (ho:s.heap.get? a=some o) (hex:o.ExactSet) (hd:o.data=.set es ep t) (ti:TabI t es.size) (hl:t.led=!(w.params.followText "set-order")) (hb:es.size<scanBound)
  (fin:∀ I first h1 d vs,(∀ b ob,s.heap.get? b=some ob->h1.get? b=some ob)->s.heap.objs.size<=I->h1.get? I=some (itObj first 0 a es.size ep)->(∀ T,first=.ref T->T≠I/\s.heap.objs.size<=T)->Fst w a es ep t h1 0 first vs->Q (.ref I) { s with heap:=h1,drawn:=d }) :
  wpAny (model prog w) A (pyIter (.ref a)) Q E s:=by
 have hT:s.TypeIs (.ref a) "set" := ⟨o,ho,hex.1⟩
 refine wpAny_pyIter_slot hT PySem.F.slot_set_iter (wpAny_call_entry PySem.F.slot_set_iter hT set_iter_entry ?_ (PySem.F.args_set_iter_1 _))
 unfold Builtin.«frozenset.__iter__» Builtin.Frozenset.slot0 slotArgs
 simp only [List.isEmpty_nil,Bool.not_true,Bool.false_eq_true, ↓reduceIte,bind_assoc,List.length_nil,bne_self_eq_false]
 unfold Builtin.Frozenset.addrOf Builtin.Frozenset.sizeOf
 refine wpAny_bind (wpAny_pure ?_)
 dsimp only
 refine wpAny_bind (wpAny_pure ?_)
 refine wpAny_bind (wpAny_bind (wpAny_setEntries_of ho hd ti.fits (wpAny_pure ?_)))
 unfold setDrawn setsByText
 refine wpAny_bind (wpAny_bind (wpAny_setState_of ho hd ti.fits ?_))
 dsimp only
 refine wpAny_bind (wpAny_bind (wpAny_askSetting (wpAny_pure (wpAny_pure ?_))))
 dsimp only
 have eEp:∀ (s1:Shared) {Q1:Nat->Shared->Prop},s1.heap.get? a=some o->Q1 ep s1->wpAny (model prog w) A.in1 (setEpoch a) Q1 E s1:=fun s1 Q1 e q=>wpAny_setEpoch_of e hd ti.fits q
 split
 ·rename_i hdr
  refine wpAny_bind (drawOrder_ok _ _ _ _ (List.length_range) fun ps d hp=>?_)
  refine wpAny_bind (wpAny_newTuple ?_ (by rw [List.length_map,hp.length_eq,List.length_range]; exact fits_of_scanBound hb))
  refine wpAny_bind (eEp _ (Heap.get?_push_of_some _ ho) ?_)
  refine wpAny_bind (wpAny_newObj_type (wpAny_pure ⟨_,rfl,"set_iterator",_,⟨_,Heap.get?_push_size _ rfl,rfl⟩,si_next.lookup, ?_⟩))
  refine fin _ (.ref s.heap.objs.size) _ d _ (fun b ob e=>Heap.get?_push_of_some _ (Heap.get?_push_of_some _ e)) ?_ (Heap.get?_push_size _ rfl) ?_ (.drawn hp (Heap.get?_push_of_some _ (Heap.get?_push_size _ rfl)))
  ·rw [Heap.size_push]; exact Nat.le_succ _
  ·rintro T e
   cases e
   exact ⟨by rw [Heap.size_push]; exact Nat.ne_of_lt (Nat.lt_succ_self _),Nat.le_refl _⟩
 ·rename_i hdr
  refine wpAny_bind (wpAny_pure (wpAny_bind (eEp _ ho ?_)))
  refine wpAny_bind (wpAny_newObj_type (wpAny_pure ⟨_,rfl,"set_iterator",_,⟨_,Heap.get?_push_size _ rfl,rfl⟩,si_next.lookup, ?_⟩))
  have old:∀ b ob,s.heap.get? b=some ob->(s.heap.push (itObj (rawInt 0) 0 a es.size ep)).get? b=some ob:=fun b ob e=>Heap.get?_push_of_some _ e
  cases hbt:w.params.followText "set-order" with
  | true=>exact fin s.heap.objs.size (rawInt 0) _ s.drawn _ old (Nat.le_refl _) (Heap.get?_push_size _ rfl) (fun T e=>by cases e) (.byText hbt)
  | false =>
   have h1:(!t.plain && decide (es.size>1))=false:=by
    have h2:¬ (!false && (!t.plain && decide (es.size>1)))=true:=by rw [<-hbt]; exact hdr
    simpa using h2
   exact fin s.heap.objs.size (rawInt 0) _ s.drawn _ old (Nat.le_refl _) (Heap.get?_push_size _ rfl) (fun T e=>by cases e) (.plain hbt h1 (by rw [hl,hbt]; rfl))
end
theorem pick_go {α:Type} (nx:Nat->Nat):∀ (fuel k:Nat) (left:List α) (out:Array α),left.length<=fuel->(pickOrder.go nx fuel k left out).toList.Perm (out.toList++left)
 | 0,k,left,out,h=>by
  have e:left=[]:=List.length_eq_zero_iff.mp (by omega)
  subst e
  simp [pickOrder.go]
 | fuel+1,k,left,out,h=>by
  simp only [pickOrder.go]
  cases left with
  | nil=>simp
  | cons x0 xr =>
   generalize hx:x0::xr=l at h ⊢
   have lt:nx k % l.length<l.length:=Nat.mod_lt _ (by rw [<-hx]; simp)
   rw [List.getElem?_eq_getElem lt]
   dsimp only
   refine (pick_go nx fuel (k+1) _ _ (by rw [List.length_eraseIdx_of_lt lt]; omega)).trans ?_
   rw [Array.toList_push,List.append_assoc]
   exact List.Perm.append_left _ (erase_perm l _ lt)
theorem pick_perm {α:Type} (nx:Nat->Nat) (xs:Array α):(pickOrder nx xs).toList.Perm xs.toList:=by
 have q:=pick_go nx xs.size 0 xs.toList #[] (by simp)
 exact q
theorem range_items (es:Array (Int × Value)):(List.range es.size).map (fun p=>(es.getD p (0,.none)).2)=es.toList.map (·.2):=by
 apply List.ext_getElem
 ·simp
 ·intro i h1 h2
  have h3:i<es.size:=by simpa using h1
  simp [h3]
section
variable {w:World} {a:Addr} {es:Array (Int × Value)} {ep:Nat} {t:SetTable} {h:Heap} {i:Nat} {first:Value} {vs:List Value}
theorem Fst.perm (F:Fst w a es ep t h i first vs):vs.Perm (es.toList.map (·.2)):=by
 cases F with
 | byText _=>exact (pick_perm _ _).map _
 | drawn hp _=>rw [<-range_items]; exact hp.map _
 | plain _ _ _=>exact .refl _
end
section
variable {prog:Program} {w:World} {A:Around} {E:Value->Shared->Prop} {s:Shared} {a I:Addr} {o:Obj} {es:Array (Int × Value)} {ep:Nat} {t:SetTable} {i:Nat} {first:Value} {vs:List Value}
theorem below_at {xs:Array Nat} (hr:Ris xs) {i:Nat} (hi:i<=xs.size):SetTable.below xs (if i=0 then (0:Int) else ((xs.getD (i - 1) 0+1:Nat):Int)).toNat=i:=by
 by_cases h:i=0
 ·subst h
  rw [if_pos rfl]
  exact below_zero hr
 ·rw [if_neg h,Int.toNat_natCast,getD_in (by omega),below_next hr (by omega)]
  omega
theorem it_put {h:Heap} {n:Nat} {x0 x1 x2 x3 x4:Value} (k:Nat) (v:Value) (hI:h.get? I=some { cls:=.type "set_iterator",data:=.fields #[x0,x1,x2,x3,x4] }) :
  (h.update I (Obj.mapFields (·.setIfInBounds k v))).get? I=some { cls:=.type "set_iterator",data:=.fields (#[x0,x1,x2,x3,x4].setIfInBounds k v) }:=by
 rw [Heap.get?_update_self _ hI rfl]
 rfl
theorem it_else {h:Heap} {f:Obj->Obj} {b:Addr} {ob:Obj} (hb:b≠I) (e:h.get? b=some ob):(h.update I f).get? b=some ob:=(Heap.get?_update_other _ _ (Ne.symm hb)).trans e
theorem Fst.heap {h h1:Heap} (F:Fst w a es ep t h i first vs) (k:∀ T,first=.ref T->∀ ob,h.get? T=some ob->h1.get? T=some ob):Fst w a es ep t h1 i first vs:=by
 cases F with
 | byText hb=>exact .byText hb
 | drawn hp e=>exact .drawn hp (k _ rfl _ e)
 | plain hb hp hl=>exact .plain hb hp hl
theorem next_item {v:Value} {Q:Option Value->Shared->Prop} (ho:s.heap.get? a=some o) (hex:o.ExactSet) (hd:o.data=.set es ep t) (ti:TabI t es.size) (hI:s.heap.get? I=some (itObj first i a es.size ep)) (hne:a≠I) (hT:∀ T,first=.ref T->T≠I)
  (F:Fst w a es ep t s.heap i first vs) (hv:vs[i]?=some v)
  (fin:∀ h1 first',(∀ b ob,b≠I->s.heap.get? b=some ob->h1.get? b=some ob)->h1.get? I=some (itObj first' (i+1) a es.size ep)->(∀ T,first'=.ref T->first=.ref T)->Fst w a es ep t h1 (i+1) first' vs->Q (some v) { s with heap:=h1 }) :
  wpAny (model prog w) A (pyNext (.ref I)) Q E s:=by
 have hTy:s.TypeIs (.ref I) "set_iterator" := ⟨_,hI,rfl⟩
 unfold pyNext
 refine wpAny_bind (wpAny_attempt (wpAny_callSpecial?_slot (name:=Str.ofString "__next__") hTy si_next (wpAny_call_entry si_next hTy si_entry ?_ (si_args _))))
 unfold Builtin.«set_iterator.__next__» slotArgs
 simp only [List.isEmpty_nil,Bool.not_true,Bool.false_eq_true, ↓reduceIte,bind_assoc,List.length_nil,bne_self_eq_false]
 refine wpAny_bind (wpAny_pure ?_)
 dsimp only
 refine wpAny_bind (wpAny_fieldsOf hI rfl ?_)
 dsimp only [rawInt]
 refine wpAny_bind (wpAny_setEntries_of ho hd ti.fits ?_)
 rw [if_neg (by simp)]
 have two:∀ (nx:Nat) {Q1:Fin->Shared->Prop},(∀ h1,(∀ b ob,b≠I->s.heap.get? b=some ob->h1.get? b=some ob)->h1.get? I=some (itObj (.int nx 0) (i+1) a es.size ep)->Q1 (.done (.ret v)) { s with heap:=h1 }) ->
   wpAny (model prog w) A.in1 (do setField (.ref I) 0 (.int nx 0); setField (.ref I) 1 (.int (i+1) 0); ret v) Q1 (fun e s'=>wpAny (model prog w) A (do let b <-isInstance e (.type "StopIteration"); if b=true then pure none else throw e) Q E s') s:=by
  intro nx Q1 q
  refine wpAny_bind (wpAny_setField hI rfl (by simp) ?_)
  have g1:=it_put (n:=es.size) 0 (.int nx 0) hI
  refine wpAny_bind (wpAny_setField g1 rfl (by simp) ?_)
  refine wpAny_pure (q _ (fun b ob hb e=>it_else hb (it_else hb e)) ?_)
  have g2:=it_put (n:=es.size) 1 (.int ((i:Int)+1) 0) g1
  exact g2
 cases F with
 | byText hb =>
  dsimp only
  unfold setNext setsByText
  refine wpAny_bind (wpAny_bind (wpAny_setState_of ho hd ti.fits ?_))
  dsimp only
  refine wpAny_bind (wpAny_bind (wpAny_askSetting (wpAny_pure ?_)))
  dsimp only
  rw [show (model prog w).w.params.followText "set-order" = true from hb]
  simp only [↓reduceIte,Int.toNat_natCast,bne_self_eq_false,Bool.false_eq_true]
  unfold setWalk setsByText
  refine wpAny_bind (wpAny_bind (wpAny_setState_of ho hd ti.fits ?_))
  dsimp only
  refine wpAny_bind (wpAny_bind (wpAny_askSetting (wpAny_pure ?_)))
  dsimp only
  rw [show (model prog w).w.params.followText "set-order" = true from hb]
  simp only [↓reduceIte]
  refine wpAny_bind (wpAny_askSetting (wpAny_pure ?_))
  dsimp only
  rw [List.getElem?_map,Array.getElem?_toList] at hv
  have hv':(pickOrder ((model prog w).w.params.setOrder a ep) es)[i]?.map (·.2)=some v:=hv
  cases hq:(pickOrder ((model prog w).w.params.setOrder a ep) es)[i]? with
  | none=>rw [hq] at hv'; cases hv'
  | some e =>
   rw [hq] at hv'
   cases hv'
   refine wpAny_pure ?_
   dsimp only [Option.map_some]
   exact two _ fun h1 k1 g1=>⟨_,rfl,wpAny_pure (fin h1 _ k1 g1 (fun T z=>by cases z) (.byText hb))⟩
 | @drawn T c ps hp hT2 =>
  dsimp only
  refine wpAny_bind (wpAny_seqItems hT2 rfl ?_)
  dsimp only
  rw [List.getElem?_map] at hv
  cases hq:ps[i]? with
  | none=>rw [hq] at hv; cases hv
  | some p =>
   rw [hq] at hv
   cases hv
   have hlt:p<es.size:=List.mem_range.mp (hp.mem_iff.mp (List.mem_of_getElem? hq))
   have e1:(List.map (fun (p:Nat)=>rawInt p) ps).toArray[((i:Int)).toNat]?=some (.int (p:Int) 0):=by
    simp only [Int.toNat_natCast,List.getElem?_toArray,List.getElem?_map,hq]
    rfl
   rw [e1]
   dsimp only
   unfold setNextDrawn
   refine wpAny_bind (wpAny_bind (wpAny_setState_of ho hd ti.fits ?_))
   dsimp only
   simp only [Int.toNat_natCast,bne_self_eq_false,Bool.false_eq_true, ↓reduceIte,Array.getElem?_eq_getElem hlt]
   refine wpAny_pure ?_
   refine wpAny_bind (wpAny_setField hI rfl (by simp) ?_)
   have g1:=it_put (n:=es.size) 1 (.int ((i:Int)+1) 0) hI
   have e2:(es.getD p (0,Value.none)).2=es[p].2:=by simp [hlt]
   refine wpAny_pure ⟨_,rfl,wpAny_pure ?_⟩
   have q:=fin _ _ (fun b ob hb e=>it_else hb e) g1 (fun T z=>z) (.drawn hp (it_else (hT T rfl) hT2))
   dsimp only at q
   rw [e2] at q
   exact q
 | plain hb hpl hled =>
  dsimp only
  unfold setNext setsByText
  refine wpAny_bind (wpAny_bind (wpAny_setState_of ho hd ti.fits ?_))
  dsimp only
  refine wpAny_bind (wpAny_bind (wpAny_askSetting (wpAny_pure ?_)))
  dsimp only
  rw [show (model prog w).w.params.followText "set-order" = false from hb]
  simp only [↓reduceIte,Int.toNat_natCast,bne_self_eq_false,Bool.false_eq_true]
  rw [if_neg (fun z=>by have z':(!t.plain && decide (es.size>1))=true:=z; rw [hpl] at z'; cases z')]
  have led0:∀ {Q1:Unit->Shared->Prop} {E1:Value->Shared->Prop},Q1 () s->wpAny (model prog w) A.in1 (if (!t.led && !es.isEmpty)=true then unsupported "set:maker-not-led" else pure ()) Q1 E1 s:=fun q=>by
   rw [hled,if_neg (by simp)]
   exact wpAny_pure q
  refine wpAny_bind (led0 ?_)
  rw [List.getElem?_map,Array.getElem?_toList] at hv
  cases hq:es[i]? with
  | none=>rw [hq] at hv; cases hv
  | some e =>
   rw [hq] at hv
   cases hv
   have hlt:i<es.size:=(Array.getElem?_eq_some_iff.mp hq).1
   have hlp:i<t.place.size:=by rw [ti.size]; exact hlt
   rw [below_at ti.ris (Nat.le_of_lt hlp),hq,Array.getElem?_eq_getElem hlp]
   refine wpAny_pure ?_
   dsimp only
   refine two _ fun h1 k1 g1=>⟨_,rfl,wpAny_pure (fin h1 _ k1 g1 (fun T z=>by cases z) ?_)⟩
   have q:=Fst.plain (w:=w) (a:=a) (es:=es) (ep:=ep) (t:=t) (h:=h1) (i:=i+1) (tk:=0) hb hpl hled
   rw [if_neg (Nat.succ_ne_zero i),Nat.add_sub_cancel,getD_in hlp] at q
   exact q
theorem next_end {Q:Option Value->Shared->Prop} (hh:A.handled=none) (ho:s.heap.get? a=some o) (hex:o.ExactSet) (hd:o.data=.set es ep t) (ti:TabI t es.size) (hI:s.heap.get? I=some (itObj first i a es.size ep)) (hne:a≠I)
  (F:Fst w a es ep t s.heap i first vs) (hi:i=vs.length)
  (fin:∀ h1,(∀ b ob,b≠I->s.heap.get? b=some ob->h1.get? b=some ob)->Q none { s with heap:=h1 }) :
  wpAny (model prog w) A (pyNext (.ref I)) Q E s:=by
 have hTy:s.TypeIs (.ref I) "set_iterator" := ⟨_,hI,rfl⟩
 have hlen:i=es.size:=by rw [hi,F.perm.length_eq,List.length_map,Array.length_toList]
 unfold pyNext
 refine wpAny_bind (wpAny_attempt (wpAny_callSpecial?_slot (name:=Str.ofString "__next__") hTy si_next (wpAny_call_entry si_next hTy si_entry ?_ (si_args _))))
 unfold Builtin.«set_iterator.__next__» slotArgs
 simp only [List.isEmpty_nil,Bool.not_true,Bool.false_eq_true, ↓reduceIte,bind_assoc,List.length_nil,bne_self_eq_false]
 refine wpAny_bind (wpAny_pure ?_)
 dsimp only
 refine wpAny_bind (wpAny_fieldsOf hI rfl ?_)
 dsimp only [rawInt]
 refine wpAny_bind (wpAny_setEntries_of ho hd ti.fits ?_)
 rw [if_neg (by simp)]
 have stop:∀ (h0:Heap) {Q1:Fin->Shared->Prop},(∀ b ob,b≠I->s.heap.get? b=some ob->h0.get? b=some ob)->wpAny (model prog w) A.in1 (do let e <-newExc (.type "StopIteration") []; raiseNew e) Q1
   (fun e s'=>wpAny (model prog w) A (do let b <-isInstance e (.type "StopIteration"); if b=true then pure none else throw e) Q E s') { s with heap:=h0 }:=by
  intro h0 Q1 k0
  refine wpAny_bind ?_
  simp only [newExc,newTuple]
  refine wpAny_bind (wpAny_newObj_type ?_ (by size_fits))
  refine wpAny_bind (m:=firstArgMember _ _) (wpAny_of_eq (a:=Value.none) (by first | rfl | (simp only [firstArgMember]; rfl)) ?_)
  refine wpAny_newObj_type ?_ (by size_fits)
  simp only [raiseNew]
  refine wpAny_bind (wpAny_handled ?_)
  rw [show A.in1.handled=none from hh]
  refine wpAny_bind (wpAny_pure (wpAny_throw ?_))
  refine wpAny_bind (wpAny_isInstance (T:="StopIteration") (b:=true) ⟨_,Heap.get?_push_size _ rfl,rfl⟩ isSubtype_stop ?_)
  exact wpAny_pure (fin _ fun b ob hb e=>Heap.get?_push_of_some _ (Heap.get?_push_of_some _ (k0 b ob hb e)))
 have one:∀ {Q1:Fin->Shared->Prop},wpAny (model prog w) A.in1 (do setField (.ref I) 2 .none; let e <-newExc (.type "StopIteration") []; raiseNew e) Q1
   (fun e s'=>wpAny (model prog w) A (do let b <-isInstance e (.type "StopIteration"); if b=true then pure none else throw e) Q E s') s:=by
  intro Q1
  exact wpAny_bind (wpAny_setField hI rfl (by simp) (stop _ fun b ob hb e=>it_else hb e))
 cases F with
 | byText hb =>
  dsimp only
  unfold setNext setsByText
  refine wpAny_bind (wpAny_bind (wpAny_setState_of ho hd ti.fits ?_))
  dsimp only
  refine wpAny_bind (wpAny_bind (wpAny_askSetting (wpAny_pure ?_)))
  dsimp only
  rw [show (model prog w).w.params.followText "set-order" = true from hb]
  simp only [↓reduceIte,Int.toNat_natCast,bne_self_eq_false,Bool.false_eq_true]
  unfold setWalk setsByText
  refine wpAny_bind (wpAny_bind (wpAny_setState_of ho hd ti.fits ?_))
  dsimp only
  refine wpAny_bind (wpAny_bind (wpAny_askSetting (wpAny_pure ?_)))
  dsimp only
  rw [show (model prog w).w.params.followText "set-order" = true from hb]
  simp only [↓reduceIte]
  refine wpAny_bind (wpAny_askSetting (wpAny_pure ?_))
  dsimp only
  have no:(pickOrder ((model prog w).w.params.setOrder a ep) es)[i]?=none:=by
   rw [Array.getElem?_eq_none_iff]
   rw [hi,List.length_map,Array.length_toList]
   exact Nat.le_refl _
  rw [no]
  refine wpAny_pure ?_
  exact one
 | @drawn T c ps hp hT2 =>
  dsimp only
  refine wpAny_bind (wpAny_seqItems hT2 rfl ?_)
  dsimp only
  have e1:(List.map (fun (p:Nat)=>rawInt p) ps).toArray[((i:Int)).toNat]?=none:=by
   rw [hi]
   simp
  rw [e1]
  dsimp only
  refine wpAny_bind (wpAny_setField hI rfl (by simp) ?_)
  have g1:=it_put (n:=es.size) 0 (.int 0 0) hI
  refine wpAny_bind (wpAny_setField g1 rfl (by simp) ?_)
  exact stop _ fun b ob hb e=>it_else hb (it_else hb e)
 | plain hb hpl hled =>
  dsimp only
  unfold setNext setsByText
  refine wpAny_bind (wpAny_bind (wpAny_setState_of ho hd ti.fits ?_))
  dsimp only
  refine wpAny_bind (wpAny_bind (wpAny_askSetting (wpAny_pure ?_)))
  dsimp only
  rw [show (model prog w).w.params.followText "set-order" = false from hb]
  simp only [↓reduceIte,Int.toNat_natCast,bne_self_eq_false,Bool.false_eq_true]
  rw [if_neg (fun z=>by have z':(!t.plain && decide (es.size>1))=true:=z; rw [hpl] at z'; cases z')]
  have led0:∀ {Q1:Unit->Shared->Prop} {E1:Value->Shared->Prop},Q1 () s->wpAny (model prog w) A.in1 (if (!t.led && !es.isEmpty)=true then unsupported "set:maker-not-led" else pure ()) Q1 E1 s:=fun q=>by
   rw [hled,if_neg (by simp)]
   exact wpAny_pure q
  refine wpAny_bind (led0 ?_)
  rw [below_at ti.ris (by rw [ti.size,hlen]; exact Nat.le_refl _),Array.getElem?_eq_none (by rw [hlen]; exact Nat.le_refl _)]
  refine wpAny_pure ?_
  exact one
end
theorem si_iter:Slot "set_iterator" "__iter__" "set_iterator.__iter__" :=
 Slot.of (owner:="set_iterator") (n:="__iter__") (by rw [typeLookup_type,builtinLookup_eq_fast]; kernel_rfl) (by decide +kernel) (by decide +kernel) (by decide +kernel) (.inl (by decide +kernel)) (by rw [isSubtype_type]; kernel_rfl)
theorem si_iter_entry:entryFor table "set_iterator.__iter__" = some Builtin.«dict_keyiterator.__iter__»:=entryFor_alias (id':="dict_keyiterator.__iter__") (by kernel_rfl) rfl (by decide +kernel) (by kernel_rfl)
theorem si_iter_args (a:Value):argsOk "set_iterator.__iter__" ⟨[a],[]⟩:=by unfold argsOk; kernel_rfl
section
variable {prog:Program} {w:World} {A:Around} {E:Value->Shared->Prop} {s:Shared} {a I:Addr} {o:Obj} {es:Array (Int × Value)} {ep:Nat} {t:SetTable} {vs:List Value}
def StI (w:World) (a I:Addr) (o:Obj) (es:Array (Int × Value)) (ep:Nat) (t:SetTable) (Ts:List Addr) (vs:List Value) (i:Nat) (h:Heap):Prop :=
 ∃ first,h.get? I=some (itObj first i a es.size ep)/\h.get? a=some o/\(∀ T,first=.ref T->T∈Ts)/\Fst w a es ep t h i first vs
theorem walks_set (hh:A.handled=none) (hex:o.ExactSet) (hd:o.data=.set es ep t) (ti:TabI t es.size) (hne:a≠I) (Ts:List Addr) (hTs:I ∉ Ts) :
  Walks prog w A I (I::a::Ts) [I] vs.length (fun i v=>vs[i]?=some v) (StI w a I o es ep t Ts vs) where
 sub:=fun b hb=>by rw [List.mem_singleton.mp hb]; exact List.mem_cons_self
 frame:=fun i h h1 st k=>by
  obtain ⟨first,g1,g2,g3,F⟩:=st
  exact ⟨first,k I List.mem_cons_self _ g1,k a (List.mem_cons_of_mem _ List.mem_cons_self) _ g2,g3,F.heap fun T e ob q=>k T (List.mem_cons_of_mem _ (List.mem_cons_of_mem _ (g3 T e))) ob q⟩
 item:=fun i s Q E hi st fin=>by
  obtain ⟨first,g1,g2,g3,F⟩:=st
  refine next_item g2 hex hd ti g1 hne (fun T e z=>hTs (z ▸ g3 T e)) F (List.getElem?_eq_getElem hi) fun h1 first' k1 q1 q2 F1=>?_
  exact fin _ h1 s.toks (List.getElem?_eq_getElem hi) ⟨first',q1,k1 a o hne g2,fun T e=>g3 T (q2 T e),F1⟩ fun b ob hb e=>k1 b ob (fun z=>hb (by rw [z]; exact List.mem_singleton_self _)) e
 done:=fun s Q E st fin=>by
  obtain ⟨first,g1,g2,g3,F⟩:=st
  exact next_end hh g2 hex hd ti g1 hne F rfl fun h1 k1=>fin h1 s.toks fun b ob hb e=>k1 b ob (fun z=>hb (by rw [z]; exact List.mem_singleton_self _)) e
 self:=fun i s Q E st q=>by
  obtain ⟨first,g1,g2,g3,F⟩:=st
  have hTy:s.TypeIs (.ref I) "set_iterator" := ⟨_,g1,rfl⟩
  refine wpAny_pyIter_slot hTy si_iter (wpAny_call_entry si_iter hTy si_iter_entry ?_ (si_iter_args _))
  exact wpAny_pure ⟨_,rfl,"set_iterator",_,hTy,si_next.lookup,q⟩
theorem hint_set (hT:s.TypeIs (.ref a) "set") {Q:Bool->Shared->Prop} (h:Q false s):wpAny (model prog w) A (Builtin.List.listLengthHint (.ref a)) Q E s:=by
 unfold Builtin.List.listLengthHint
 refine wpAny_bind (wpAny_specialOf hT PySem.F.slot_set_len.lookup ?_)
 generalize hid:("set.__len__" : String)=id0
 wp_delta
 rw [show splitId id0=some ("set","__len__") from by subst hid; decide +kernel]
 subst hid
 refine wpAny_bind (wpAny_isInstance (b:=true) hT sub_set_self (wpAny_ite_split (fun z=>absurd z (by decide)) fun _=>wpAny_ite_split (fun _=>?_) fun z=>absurd (by decide +kernel) z))
 exact wpAny_bind (wpAny_typeOf hT (wpAny_pure h))
theorem collect_set {Q:List Value->Shared->Prop} (hh:A.handled=none) (ho:s.heap.get? a=some o) (hex:o.ExactSet) (hd:o.data=.set es ep t) (ti:TabI t es.size) (hl:t.led=!(w.params.followText "set-order")) (hb:es.size<scanBound)
  (fin:∀ (h1:Heap) (tk:Nat) (d:Drawn) (vs:List Value),(∀ b ob,s.heap.get? b=some ob->h1.get? b=some ob)->s.heap.objs.size<h1.objs.size->vs.Perm (es.toList.map (·.2))->Q vs { s with heap:=h1,toks:=tk,drawn:=d }) :
  wpAny (model prog w) A (collect (.ref a)) Q E s:=by
 have alt:=Heap.lt_size ho
 unfold collect
 refine wpAny_bind (wpAny_runValue (codeAny_builtin entry_proto_collect' ?_))
 rw [Around.under_plainId PySem.F.plain_proto_collect]
 refine wpAny_bind (m:=newList []) (wpAny_newObj_type (wpAny_pure ⟨plainId_quiet PySem.F.plain_list_iadd _,codeAny_builtin entry_list_iadd' ?_⟩))
 rw [Around.under_plainId PySem.F.plain_list_iadd]
 generalize hs1:({ s with heap:=s.heap.push { cls:=.type "list",dict:=none,data:=.seq ([]:List Value).toArray } }:Shared)=s1
 change wpAny (model prog w) A.in1 (Builtin.List.listExtendWith (.ref s.heap.objs.size) (.ref a) (.ref s.heap.objs.size)) _ _ _
 have Va:s1.heap.get? s.heap.objs.size=some { cls:=.type "list",dict:=none,data:=.seq #[] 0,slots:=#[] }:=by rw [<-hs1]; exact Heap.get?_push_size _ rfl
 have k1:∀ b ob,s.heap.get? b=some ob->s1.heap.get? b=some ob:=fun b ob e=>by rw [<-hs1]; exact Heap.get?_push_of_some _ e
 have ho1:=k1 a o ho
 have hT1:s1.TypeIs (.ref a) "set" := ⟨o,ho1,hex.1⟩
 unfold Builtin.List.listExtendWith
 refine wpAny_bind (wpAny_typeOf hT1 ?_)
 have n1:Builtin.List.listSameRef (.ref s.heap.objs.size) (.ref a)=false:=by
  simp only [Builtin.List.listSameRef,beq_eq_false_iff_ne]
  exact Nat.ne_of_gt alt
 have n2:(Value.type "set" == Value.type "list")=false:=by decide
 have n3:(Value.type "set" == Value.type "tuple")=false:=by decide
 simp only [n1,n2,n3,Bool.or_false,Bool.false_eq_true,if_false]
 refine wpAny_bind (iter_set ho1 hex hd ti hl hb fun I first h2 d vs k2 hI at2 hf F=>?_)
 generalize hS:s.heap.objs.size=S at *
 have S1:S<s1.heap.objs.size:=Heap.lt_size Va
 obtain ⟨Ts,tin,tout,tall⟩:∃ Ts:List Addr,(∀ T,first=.ref T->T∈Ts)/\I ∉ Ts/\∀ T∈Ts,s1.heap.objs.size<=T:=by
  cases first with
  | ref T=>exact ⟨[T],(fun T' e=>by cases e; exact List.mem_singleton_self _),fun z=>(hf T rfl).1 (List.mem_singleton.mp z).symm,fun T' z=>by rw [List.mem_singleton.mp z]; exact (hf T rfl).2⟩
  | _=>exact ⟨[],(fun T e=>nomatch e),List.not_mem_nil,fun T z=>absurd z List.not_mem_nil⟩
 have aI:a≠I:=Nat.ne_of_lt (Nat.lt_of_lt_of_le (Nat.lt_trans alt S1) hI)
 have SI:S≠I:=Nat.ne_of_lt (Nat.lt_of_lt_of_le S1 hI)
 have Sfp:S ∉ I::a::Ts:=fun z=>by
  rcases List.mem_cons.mp z with z | z
  ·exact SI z
  ·rcases List.mem_cons.mp z with z | z
   ·exact Nat.ne_of_gt alt z
   ·exact absurd (Nat.lt_of_lt_of_le S1 (tall S z)) (Nat.lt_irrefl _)
 have hn:vs.length<=sizeLine:=by
  rw [F.perm.length_eq,List.length_map,Array.length_toList]
  exact fits_of_scanBound hb
 have W:=walks_set (prog:=prog) (w:=w) (A:=A.in1) (vs:=vs) hh hex hd ti aI Ts tout
 have st2:StI w a I o es ep t Ts vs 0 h2:=⟨first,at2,k2 a o ho1,tin,F⟩
 have key:∀ (h3:Heap) (c:Nat),StI w a I o es ep t Ts vs 0 h3->h3.get? S=some { cls:=.type "list",dict:=none,data:=.seq #[] c,slots:=#[] }->(∀ b ob,s.heap.get? b=some ob->h3.get? b=some ob) ->
   codeAny (model prog w) A (.builtin "list.extend.loop" ⟨[.ref S,.ref I,.ref S],[]⟩) (fun r s'=>match r with
    | .ok (.ret v)=>wpAny (model prog w) A (match v with
      | .ref a=>do
       let x <-load a
       match x.data with
        | .seq xs _=>pure xs.toList
        | _=>unsupported "internal:collect"
      | _=>unsupported "internal:collect") Q E s'
    | .ok _=>False
    | .error e=>E e s') { heap:=h3,gens:=s1.gens,drawn:=d,toks:=s1.toks,os:=s1.os }:=by
  intro h3 c st3 g3 k3
  refine codeAny_extend_loopS W.toS hn S Sfp (.ref S) vs.length 0 _ #[] c rfl (Nat.zero_le _) st3 g3 (ItemsOf.nil _) fun s4 acc c4 mv g4 items=>?_
  dsimp only
  refine wpAny_bind (wpAny_load g4 ?_)
  dsimp only
  obtain ⟨h4,gg,d4,tk4,o4⟩:=s4
  have x1:gg=s1.gens:=mv.gens
  have x2:d4=d:=mv.drawn
  have x3:o4=s1.os:=mv.os
  subst x1 x2 x3
  have ev:acc.toList=vs:=by
   apply List.ext_getElem?
   intro i
   rw [Array.getElem?_toList]
   by_cases hi:i<vs.length
   ·have hi':i<acc.size:=by rw [items.1]; exact hi
    rw [Array.getElem?_eq_getElem hi']
    exact (items.2 i _ (Array.getElem?_eq_getElem hi')).symm
   ·rw [Array.getElem?_eq_none (by rw [items.1]; omega),List.getElem?_eq_none (by omega)]
  rw [ev]
  have q:=fin h4 tk4 d4 vs (fun b ob e=>mv.heap b ob (fun z=>?_) (k3 b ob e)) (Heap.lt_size g4) F.perm
  ·rw [<-hs1]
   exact wpAny_pure q
  ·have lb:=Heap.lt_size e
   rcases List.mem_cons.mp z with z | z
   ·rw [hS,z] at lb
    exact Nat.lt_irrefl _ lb
   ·rw [List.mem_singleton.mp z,hS] at lb
    exact Nat.lt_irrefl _ (Nat.lt_of_lt_of_le (Nat.lt_trans lb S1) hI)
 have kall:∀ b ob,s.heap.get? b=some ob->h2.get? b=some ob:=fun b ob e=>k2 b ob (k1 b ob e)
 have nbS:∀ {b:Addr} {ob:Obj},s.heap.get? b=some ob->b≠S:=fun e=>Nat.ne_of_lt (hS ▸ Heap.lt_size e)
 refine wpAny_bind (wpAny_holding (hint_set ⟨o,k2 a o ho1,hex.1⟩ ?_))
 refine wpAny_ite_split (fun _=>?_) (fun _=>wpAny_pure ⟨plainId_quiet PySem.F.plain_extend_loop _,key h2 0 st2 (k2 S _ Va) kall⟩)
 refine wpAny_bind (wpAny_rule (wpAny_bind (m:=Builtin.List.listTouch (.ref S)) ?_))
 change wpAny (model prog w) _ (updateSeq S (·.push .none) >>= fun _=>updateSeq S (·.pop)) _ _ _
 refine wpAny_bind (wpAny_updateSeq (k2 S _ Va) rfl ?_)
 have u1:=Heap.get?_update_self (Obj.mapSeq (·.push Value.none)) (k2 S _ Va) rfl
 refine wpAny_updateSeq (hz:=by seq_fits) u1 rfl ?_
 have u2:=Heap.get?_update_self (Obj.mapSeq (·.pop)) u1 rfl
 have other:∀ b ob,b≠S->h2.get? b=some ob->((h2.update S (Obj.mapSeq (·.push Value.none))).update S (Obj.mapSeq (·.pop))).get? b=some ob:=fun b ob z e=>(Heap.get?_update_other _ _ (Ne.symm z)).trans ((Heap.get?_update_other _ _ (Ne.symm z)).trans e)
 refine wpAny_pure ⟨plainId_quiet PySem.F.plain_extend_loop _,key _ _ (W.frame 0 _ _ st2 fun b z ob e=>other b ob (fun y=>Sfp (y ▸ z)) e) u2 fun b ob e=>other b ob (nbS e) (kall b ob e)⟩
end
section
variable {prog:Program} {w:World} {K:Type} [DecidableEq K] {knd:PySem.KeyKind prog w K} {A:Around} {E:Value->Shared->Prop} {s:Shared} {a:Addr}
theorem sortedHeap_keep {h:Heap} {l b:Addr} {vs:List Value} {out:Array Value} {ob:Obj} (hb:b≠l) (e:h.get? b=some ob):(sortedHeap h l vs out).get? b=some ob:=by
 rw [sortedHeap_old hb (Heap.lt_size e)]
 exact e
theorem paired_map {α β γ:Type} {G:α->γ->Prop} {g:β->γ}:∀ {l:List α} {r:List β},Paired (fun x y=>G x (g y)) l r->Paired G l (r.map g)
 | _,_,.nil=>.nil
 | _,_,.cons q t=>.cons q (paired_map t)
theorem sorted_of_set {ks:List K} {Q:Value->Shared->Prop} (hh:A.handled=none) (hS:SetG knd s.heap a ks)
  (fin:∀ (h1:Heap) (tk:Nat) (d:Drawn) (vs:List Value) (ks1:List K),(∀ b ob,s.heap.get? b=some ob->h1.get? b=some ob)->s.heap.objs.size<h1.objs.size->Paired (fun k v=>knd.is k v=true) ks1 vs->ks1.Perm ks ->
   wpAny (model prog w) A.in1.in1 (Builtin.«list.sort» ⟨[.ref h1.objs.size],[]⟩) (fun r s2=>r=.done (.ret .none)/\Q (.ref h1.objs.size) s2) E { s with heap:=h1.push (seqObj "list" vs.toArray 0),toks:=tk,drawn:=d }) :
  wpAny (model prog w) A (call (.builtin "sorted") [.ref a]) Q E s:=by
 obtain ⟨o,ho,S⟩:=hS
 obtain ⟨es,ep,t,hd,hel,pr,hb,ti,hl⟩:=S.dat
 refine Calls.call_function_entry kind_sorted plain_sorted entry_sorted (args_sorted1 _) ?_
 unfold Builtin.«sorted»
 refine wpAny_bind (m:=checkCount "sorted" 1 1 _) (wpAny_pure ?_)
 refine wpAny_bind (collect_set hh ho S.ex hd ti hl hb fun h1 tk d vs k1 sz hp=>?_)
 have hn:vs.length<=sizeLine:=by
  rw [hp.length_eq,List.length_map,Array.length_toList]
  exact fits_of_scanBound hb
 have pr2:Paired (fun k v=>knd.is k v=true) ks (es.toList.map (·.2)):=paired_map pr
 obtain ⟨ks1,pr3,pk⟩:=paired_perm hp pr2
 refine wpAny_bind (wpAny_newList ?_ hn)
 refine wpAny_bind (wpAny_holding ?_)
 have Va:(h1.push (seqObj "list" vs.toArray 0)).get? h1.objs.size=some (seqObj "list" vs.toArray 0):=Heap.get?_push_size _ rfl
 refine wpAny_call_entry slot_list_sort ⟨_,Va,rfl⟩ entry_list_sort ?_ (args_list_sort _)
 refine wpAny_mono (fin h1 tk d vs ks1 k1 sz pr3 pk) (fun r s2 q=>?_) fun _ _ z=>z
 obtain ⟨rfl,q⟩:=q
 exact ⟨_,rfl,wpAny_pure ⟨_,rfl,q⟩⟩
theorem strs_of {f:K->Str}:∀ {ks:List K} {vs:List Value},(∀ k v,k∈ks->knd.is k v=true->∃ t,v=.str (f k) t)->Paired (fun k v=>knd.is k v=true) ks vs->StrsAre vs (ks.map f)
 | _,_,_,.nil=>.nil
 | k::ks,v::vs,hf,.cons r t=>by
  obtain ⟨tk,rfl⟩:=hf k v List.mem_cons_self r
  exact .cons _ _ (strs_of (fun k v hk=>hf k v (List.mem_cons_of_mem _ hk)) t)
theorem sorted_set_strs {ks:List K} {f:K->Str} {Q:Value->Shared->Prop} (hh:A.handled=none) (hS:SetG knd s.heap a ks) (hf:∀ k v,k∈ks->knd.is k v=true->∃ t,v=.str (f k) t) (h64:ks.length<64)
  (fin:∀ (h1:Heap) (tk:Nat) (d:Drawn) (l:Addr) (out:Array Value) (n:Nat) (ns:List Str),(∀ b ob,s.heap.get? b=some ob->h1.get? b=some ob)->s.heap.objs.size<=l->h1.get? l=some (seqObj "list" out n)->StrsAre out.toList ns->ns.Perm (ks.map f)->sortedS ns=true->Q (.ref l) { s with heap:=h1,toks:=tk,drawn:=d }) :
  wpAny (model prog w) A (call (.builtin "sorted") [.ref a]) Q E s:=by
 refine sorted_of_set hh hS fun h1 tk d vs ks1 k1 sz pr pk=>?_
 have hI:=strs_of (fun k v hk=>hf k v (pk.mem_iff.mp hk)) pr
 have hlen:vs.length=ks.length:=by rw [<-pr.length,pk.length_eq]
 refine list_sort_treeK strKind_oneLt (s:={ s with heap:=h1.push (seqObj "list" vs.toArray 0),toks:=tk,drawn:=d }) (Heap.get?_push_size _ rfl) hI.keysOf (fun v1 v2 rest e=>keyKind_strs (by rw [<-e]; exact hI)) (by omega) fun st hp hs=>⟨rfl, ?_⟩
 obtain ⟨ns,q1,q2,q3⟩:=sorted_out_str hI hp hs
 obtain ⟨n,e⟩:=sortedHeap_at (h:=h1.push (seqObj "list" vs.toArray 0)) (a:=h1.objs.size) (vs:=vs) (n:=0) (out:=(arrOf st).map (·.2)) (Heap.get?_push_size _ rfl)
 exact fin _ tk d h1.objs.size _ n ns (fun b ob e0=>sortedHeap_keep (Nat.ne_of_lt (Heap.lt_size (k1 b ob e0))) (Heap.get?_push_of_some _ (k1 b ob e0))) (Nat.le_of_lt sz) e q1 (q2.trans (pk.map f)) q3
end
end SetM
namespace L2
open PySem PySem.Spec PyProof.Rows
def SetHO (P:Program) (w:World) (a:Addr) (us:List Yt):HO:=.ext fun h=>SetM.SetG (Z8 P w) h a us
theorem scan_kV {P:Program} {w:World} (k:Yt) {v:Value} (r:Z2 (kV k) v):(Z8 P w).is k v=true/\v.scannable=true:=by
 cases k with
 | inl i=>obtain ⟨t,rfl⟩:=(show ∃ t,v=Value.int i t from r); exact ⟨keyIs_int i t,rfl⟩
 | inr x=>obtain ⟨t,rfl⟩:=(show ∃ t,v=Value.str x t from r); exact ⟨keyIs_str x t,rfl⟩
theorem Zs.put {X:Cx} {pins:List (Addr × Obj)} {σ:St} {H:Hp} {s:Shared} {h':Heap} {a:Addr} {o:HO} {t':Nat} {d':Drawn} (I:Zs X pins σ H s) (k:∀ b u,s.heap.get? b=some u->h'.get? b=some u) (hp:s.heap.objs.size<=a) (new:Yu X.prog X.w (Z3 H a o) h' a o) :
  Zs X pins σ (Z3 H a o) { s with heap:=h',toks:=t',drawn:=d' } :=
 I.call (g':=s.gens) (t':=t') (d':=d') (ch:=[]) (Un.laid k hp (I.hok.fresh hp)) (I.hok.laid k hp new) I.bare fun b z=>absurd z List.not_mem_nil
section
variable {X:Cx}
theorem call_setK (hc:X.calm=true):CallR X (.type "set") (fun xs H Q=>∃ (p:Addr) (ks:List Yt),xs=[.ref p]/\Z0 X.K H p (ks.map kV)/\ks.length+1<scanBound /\
  ∀ (l:Addr) (us:List Yt),H l=none->us.Nodup->(∀ x,x∈us ↔ x∈ks)->us.length<=ks.length->Q (.ref l) (Z3 H l (SetHO X.prog X.w l us))):=by
 intro pins s σ H xs us Q I r h
 obtain ⟨p,ks,rfl,hq,hz,q⟩:=h
 obtain ⟨u,rfl,rx⟩:=vals1 r
 cases rx
 obtain ⟨its,rv,pl,hzz⟩:=I.list hq
 have hl:its.toArray.size=ks.length:=by rw [List.size_toArray, <-rv.length,List.length_map]
 refine SetM.call_set (knd:=Z8 X.prog X.w) (val:=fun i=>ks.getD i (.inl 0)) (I.ok.hd hc) pl.isList (fun i v e=>?_) (by omega) fun h1 tk ws S u k1=>?_
 ·have e':its[i]?=some v:=by simpa using e
  have hi:i<ks.length:=by
   have:=(List.getElem?_eq_some_iff.mp e').1
   rw [List.size_toArray] at hl
   omega
  have e2:(ks.map kV)[i]?=some (kV ks[i]):=by rw [List.getElem?_map,List.getElem?_eq_getElem hi]; rfl
  obtain ⟨v',g1,g2⟩:=rv.get e2
  rw [e'] at g1
  cases g1
  have e3:ks.getD i (.inl 0)=ks[i]:=by simp [hi]
  rw [e3]
  exact scan_kV _ g2
 ·obtain ⟨o,ho,SO⟩:=id S
  have mem:∀ x,x∈ws ↔ x∈ks:=fun x=>by
   rw [u.mem x,hl]
   constructor
   ·rintro ⟨j,h1,h2⟩
    rw [<-h2]
    have e3:ks.getD j (.inl 0)=ks[j]:=by simp [h1]
    rw [e3]
    exact List.getElem_mem h1
   ·intro hx
    obtain ⟨j,h1,h2⟩:=List.mem_iff_getElem.mp hx
    exact ⟨j,h1,by simp [h1,h2]⟩
  refine ⟨.ref s.heap.objs.size,_,I.put (o:=SetHO X.prog X.w s.heap.objs.size ws) (d':=s.drawn) k1 (Nat.le_refl _) ⟨S,⟨o,ho⟩,fun h2 h3 x e=>SetM.SetG.at' x e⟩,rfl,q _ ws (I.hok.fresh (Nat.le_refl _)) SO.nd mem ?_⟩
  have:=u.len
  omega
theorem vals_strs:∀ {vs:List Value} {ss:List Str},StrsAre vs ss->Z9 (ss.map V.str) vs
 | _,_,.nil=>.nil
 | _,_,.cons y t r=>.cons ⟨t,rfl⟩ (vals_strs r)
theorem call_sortedS (hc:X.calm=true):CallR X (.builtin "sorted") (fun xs H Q=>∃ (a:Addr) (zs:List Str),xs=[.ref a]/\H a=some (SetHO X.prog X.w a (zs.map Sum.inr))/\zs.length<64 /\
  ∀ (l:Addr) (ns:List Str),H l=none->ns.Perm zs->sortedS ns=true->Q (.ref l) (Z3 H l (.lst (ns.map V.str)))):=by
 intro pins s σ H xs us Q I r h
 obtain ⟨a,zs,rfl,hq,hz,q⟩:=h
 obtain ⟨u,rfl,rx⟩:=vals1 r
 cases rx
 obtain ⟨S,_,_⟩:=(show SetM.SetG (Z8 X.prog X.w) s.heap a (zs.map Sum.inr)/\_ from I.hok a _ hq)
 refine SetM.sorted_set_strs (knd:=Z8 X.prog X.w) (f:=fun k=>match k with | .inl _=>("" : Str) | .inr x=>x) (I.ok.hd hc) S (fun k v hk hv=>?_) (by rw [List.length_map]; exact hz) fun h1 tk d l out n ns k1 sz Va hI pm pw=>?_
 ·obtain ⟨x,_,rfl⟩:=List.mem_map.mp hk
  rcases Ym (show keyIs (Sum.inr x) v=true from hv) with ⟨j,t,e,rfl⟩ | ⟨y,t,e,rfl⟩
  ·cases e
  ·cases e; exact ⟨t,rfl⟩
 ·have pm':ns.Perm zs:=by
   have e:(zs.map (Sum.inr:Str->Yt)).map (fun k=>match k with | .inl _=>("" : Str) | .inr x=>x)=zs:=by rw [List.map_map]; exact List.map_id' _
   rw [<-e]; exact pm
  refine ⟨.ref l,_,I.put (o:=.lst (ns.map V.str)) k1 sz ⟨?_,out.toList,n,vals_strs hI, ?_⟩,rfl,q l ns (I.hok.fresh sz) pm' pw⟩
  ·rw [List.length_map,pm'.length_eq]
   exact Nat.le_of_lt (Yq (by omega))
  ·simpa using Va
end
end L2
namespace ZipL
open PySem PySem.Calls PyProof.Rows PyProof.V PySem.Spec
abbrev ZAt (h:Heap) (z TI TO:Addr) (f0 f1:Value):Prop :=
 h.get? z=some { cls:=.type "zip",dict:=none,data:=.fields #[f0,f1,.bool false,.ref TI,.ref TO],slots:=#[] }
section
variable {prog:Program} {w:World} {A:Around} {E:Value->Shared->Prop} {s:Shared} {z TI TO T i1 i2 l1 l2:Addr} {f:Bool} {oT:Obj} {k1 k2:Nat} {xs ys:Array Value} {x y:Value}
structure ZSt (h:Heap) (z TI TO i1 i2 l1 l2 S:Addr) (xs ys:Array Value) (i:Nat):Prop where
 at0:ZAt h z TI TO .none (.bool false)\/∃ (T:Addr) (f:Bool) (oT:Obj),ZAt h z TI TO (rawInt T) (.bool f)/\h.get? T=some oT/\T≠z/\T≠TO/\T≠i1/\T≠i2/\T≠S
 ti:IsPair h TI (.ref i1) (.ref i2)
 to:∃ a b,IsPair h TO a b
 it1:h.IsListIter i1 l1 i
 it2:h.IsListIter i2 l2 i
 ls1:h.IsList l1 xs
 ls2:h.IsList l2 ys
theorem ZSt.keep {h h':Heap} {S:Addr} {i:Nat} (q:ZSt h z TI TO i1 i2 l1 l2 S xs ys i) (k:∀ c o,c≠S->h.get? c=some o->h'.get? c=some o) (hS:∀ c∈[z,TI,TO,i1,i2,l1,l2],c≠S):ZSt h' z TI TO i1 i2 l1 l2 S xs ys i where
 at0:=by
  have e:=hS z (by simp)
  rcases q.at0 with a | ⟨T,f,oT,a,b,c⟩
  ·exact .inl (k _ _ e a)
  ·exact .inr ⟨T,f,oT,k _ _ e a,k _ _ c.2.2.2.2 b,c⟩
 ti:=k _ _ (hS TI (by simp)) q.ti
 to:=let ⟨a,b,e⟩:=q.to; ⟨a,b,k _ _ (hS TO (by simp)) e⟩
 it1:=q.it1.at fun o e=>k _ o (hS i1 (by simp)) e
 it2:=q.it2.at fun o e=>k _ o (hS i2 (by simp)) e
 ls1:=q.ls1.at fun o e=>k _ o (hS l1 (by simp)) e
 ls2:=q.ls2.at fun o e=>k _ o (hS l2 (by simp)) e
end
section
variable {prog:Program} {w:World} {A:Around} {R:Result->Shared->Prop} {E:Value->Shared->Prop} {s:Shared} {z TI TO i1 i2 l1 l2 S:Addr} {xs ys:Array Value}
structure Made (h:Heap) (lo:Addr) (xs ys:Array Value) (as:List Addr):Prop where
 rise:as.Pairwise (· < ·)
 above:∀ a∈as,lo<=a
 pairs:∀ (j:Nat) (a:Addr),as[j]?=some a->∃ x y,xs[j]?=some x/\ys[j]?=some y/\IsPair h a x y
theorem Made.there {h:Heap} {lo:Addr} {as:List Addr} (g:Made h lo xs ys as) {a:Addr} (ha:a∈as):a<h.objs.size:=by
 obtain ⟨j,hj⟩:=List.mem_iff_getElem?.mp ha
 obtain ⟨_,_,_,_,e⟩:=g.pairs j a hj
 exact Heap.lt_size e
theorem Made.keep {h h':Heap} {lo:Addr} {as:List Addr} (g:Made h lo xs ys as) (k:∀ c o,lo<=c->h.get? c=some o->h'.get? c=some o):Made h' lo xs ys as :=
 ⟨g.rise,g.above,fun j a e=>by
  obtain ⟨x,y,e1,e2,e3⟩:=g.pairs j a e
  exact ⟨x,y,e1,e2,k a _ (g.above a (List.mem_of_getElem? e)) e3⟩⟩
end
end ZipL
namespace L2
open PySem PySem.Spec PyProof.Rows
section
variable {X:Cx} {pins:List (Addr × Obj)} {σ:St} {H H':Hp} {s:Shared} {h':Heap}
theorem Zs.lays {t':Nat} (I:Zs X pins σ H s) (k:∀ b u,s.heap.get? b=some u->h'.get? b=some u) (old:∀ b,b<s.heap.objs.size->H' b=H b)
  (new:∀ b o,s.heap.objs.size<=b->H' b=some o->Yu X.prog X.w H' h' b o):Zs X pins σ H' { s with heap:=h',toks:=t' }:=by
 have up:∀ b o,H b=some o->H' b=some o:=fun b o e=>by rw [old b (I.hok.lt e)]; exact e
 refine I.un ⟨fun b o e _ _ _=>k b o e,fun b o e _ _ _=>⟨o.slots,k b o e⟩,fun b o e n _=>by rw [old b (Heap.lt_size e)]; exact n,fun b o e _=>⟨o,k b o e⟩,fun b xs e=>up b _ e,fun b o u e=>up b _ e,fun b ps e=>⟨#[],by rw [up b _ e]; simp⟩⟩ fun b o e=>?_
 by_cases hb:b<s.heap.objs.size
 ·rw [old b hb] at e
  exact (I.hok b o e).stay (fun c u _ q=>k c u q) (fun c q=>up c _ q) fun c xs q=>up c _ q
 ·exact new b o (Nat.le_of_not_lt hb) e
end
def AtPairs (H:Hp):List Addr->List V->List V->Prop
 | [],xs,ys=>xs=[]\/ys=[]
 | a::as,xs,ys=>∃ x xr y yr,xs=x::xr/\ys=y::yr/\H a=some (.tup [x,y])/\AtPairs H as xr yr
theorem AtPairs.of {H:Hp}:∀ {as:List Addr} {xs ys:List V},as.length=min xs.length ys.length->(∀ (j:Nat) (a:Addr),as[j]?=some a->∃ x y,xs[j]?=some x/\ys[j]?=some y/\H a=some (.tup [x,y]))->AtPairs H as xs ys
 | [],xs,ys,hl,_=>by
  cases xs with
  | nil=>exact .inl rfl
  | cons x xr =>
   cases ys with
   | nil=>exact .inr rfl
   | cons y yr=>simp at hl
 | a::as,xs,ys,hl,h=>by
  cases xs with
  | nil=>simp at hl
  | cons x xr =>
   cases ys with
   | nil=>simp at hl
   | cons y yr =>
    obtain ⟨x',y',e1,e2,e3⟩:=h 0 a rfl
    simp only [List.getElem?_cons_zero,Option.some.injEq] at e1 e2
    subst e1 e2
    refine ⟨x,xr,y,yr,rfl,rfl,e3,AtPairs.of (by simp only [List.length_cons] at hl; omega) fun j b e=>?_⟩
    obtain ⟨x'',y'',q1,q2,q3⟩:=h (j+1) b (by simpa using e)
    exact ⟨x'',y'',by simpa using q1,by simpa using q2,q3⟩
def layP (H:Hp) (n:Nat) (l:Addr) (as:List Addr) (xs ys:List V):Hp:=fun b =>
 if b<n then H b else if b=l then some (.lst (as.map V.ref)) else if b∈as then some (.tup [xs.getD (as.idxOf b) .non,ys.getD (as.idxOf b) .non]) else none
theorem same_ix {as:List Addr} {i j:Nat} {c:Addr} (r:as.Pairwise (· < ·)) (h:as[i]?=some c) (h':as[j]?=some c):i=j:=by
 obtain ⟨h1,e1⟩:=List.getElem?_eq_some_iff.mp h
 obtain ⟨h2,e2⟩:=List.getElem?_eq_some_iff.mp h'
 have q:=List.pairwise_iff_getElem.mp r
 rcases Nat.lt_trichotomy i j with z | z | z
 ·have:=q i j h1 h2 z
  rw [e1,e2] at this
  exact absurd this (Nat.lt_irrefl _)
 ·exact z
 ·have:=q j i h2 h1 z
  rw [e1,e2] at this
  exact absurd this (Nat.lt_irrefl _)
theorem ix_same {as:List Addr} {j:Nat} {c:Addr} (r:as.Pairwise (· < ·)) (h:as[j]?=some c):as.idxOf c=j:=by
 have m:c∈as:=List.mem_of_getElem? h
 have hl:=List.idxOf_lt_length_of_mem m
 exact same_ix r (by rw [List.getElem?_eq_getElem hl,List.getElem_idxOf hl]) h
theorem vals_at:∀ {xs:List V} {us:List Value} {j:Nat} {u:Value},Z9 xs us->us[j]?=some u->Z2 (xs.getD j .non) u
 | _,_,_,_,.nil,e=>by simp at e
 | _,_,0,_,.cons r _,e=>by simp at e; subst e; exact r
 | _,_,j+1,_,.cons _ t,e=>by
  have:=vals_at (j:=j) t (by simpa using e)
  simpa using this
theorem vals_refs:∀ as:List Addr,Z9 (as.map V.ref) (as.map Value.ref)
 | []=>.nil
 | a::as=>.cons rfl (vals_refs as)
section
variable {X:Cx} {x y:Str} {p p2 pos pos2:Pos} {a b:Expr} {t:TA}
end
def Fn (P:Program) (w:World) (K:W.Frag) (mg:Str->Option Value) (base:Heap) (k:Nat) (x:Str) (ps:List Str) (sp:Sp):Prop :=
 ∃ f fd,Y4 P w K mg base CX0 k f fd ps sp/\Binds K fd ps []/\W.keepIn K (.ref f)=true/\mg x=some (.ref f)
section
variable {X:Cx} {k:Nat} {x:Str} {ps:List Str} {sp:Sp} {p pos:Pos} {e:Expr} {es:List Expr} {t:TA}
theorem Zy (G:Fn X.prog X.w X.K X.mg X.base k x ps sp) (hr:Vr k X.A) (hg:Gl X x) (ha:PA X (e::es) t) (hdb:(x == ("__debug__" : Str))=false:=by decide)
  (he:starEach (e::es) X.env=(false,eval e X.env)::starEach es X.env:=by rfl) (hpl:(backTo pos (starEach es X.env)).any (·.1)=false:=by rfl) :
  PE X (.Call (.Name x p) (e::es) [] pos) (tCall sp [] E0 t):=by
 obtain ⟨f,fd,F,b,kp,m⟩:=G
 exact pe_call F hr hg m kp b .nil pass0 ha hdb he hpl
theorem Y4.any {P:Program} {w:World} {K:W.Frag} {mg:Str->Option Value} {base:Heap} {CX:CXT} {k:Nat} {f:Addr} {fd:FuncData} {ps:List Str} {ι:Type} {C:ι->Prop} {sp:ι->Sp} (h:∀ i,C i->Y4 P w K mg base CX k f fd ps (sp i)) :
  Y4 P w K mg base CX k f fd ps (fun vs H Q E=>∃ i,C i/\sp i vs H Q E) :=
 ⟨fun vs H Q E ⟨i,c,q⟩=>(h i c).len vs H Q E q,fun A outer s H args us vs Q E hr he hb hv ⟨i,c,q⟩=>(h i c).run A outer s H args us vs Q E hr he hb hv q⟩
end
def Up (K:W.Frag) (H H':Hp):Prop:=∀ a xs,Z6 K H a xs->Z6 K H' a xs
theorem Up.refl {K:W.Frag} (H:Hp):Up K H H:=fun _ _ h=>h
theorem Up.trans {K:W.Frag} {H H1 H2:Hp} (a:Up K H H1) (b:Up K H1 H2):Up K H H2:=fun c xs h=>b c xs (a c xs h)
theorem Zv.up {K:W.Frag} {H H':Hp} (e:Zv H H'):Up K H H':=fun a xs h=>by
 rcases h with (h | ⟨o,h⟩) | h
 ·exact .inl (.inl (e _ _ h))
 ·exact .inl (.inr ⟨o,e _ _ h⟩)
 ·exact .inr h
theorem Zv.put {H H1:Hp} {p:Addr} {o:HO} (e:Zv H H1) (h:H p=none):Zv H (Z3 H1 p o):=fun b u q=>by
 rw [Zk (Z4 q h)]; exact e b u q
mutual
def noL:D->Bool
 | .tup xs=>noLs xs
 | .lst _=>false
 | _=>true
def noLs:List D->Bool
 | []=>true
 | d::ds=>noL d && noLs ds
end
mutual
theorem Vu.up {K:W.Frag} {H H':Hp} (u:Up K H H'):∀ (d:D) (v:V),noL d=true->Vu K H d v->Vu K H' d v
 | .non,v,_,h=>h
 | .bl b,v,_,h=>h
 | .int i,v,_,h=>h
 | .str x,v,_,h=>h
 | .tup ds,v,n,h=>by
  obtain ⟨a,vs,e,q,r⟩:=h
  exact ⟨a,vs,e,u a vs q,Yd.up u ds vs (by simpa [noL] using n) r⟩
 | .lst ds,v,n,h=>by simp [noL] at n
theorem Yd.up {K:W.Frag} {H H':Hp} (u:Up K H H'):∀ (ds:List D) (vs:List V),noLs ds=true->Yd K H ds vs->Yd K H' ds vs
 | [],vs,_,h=>h
 | d::ds,vs,n,h=>by
  obtain ⟨v,r,e,q,t⟩:=h
  have n':noL d=true/\noLs ds=true:=by simpa [noLs] using n
  exact ⟨v,r,e,Vu.up u d v n'.1 q,Yd.up u ds r n'.2 t⟩
end
theorem noLs_all:∀ {ds:List D},(∀ d∈ds,noL d=true)->noLs ds=true
 | [],_=>rfl
 | d::ds,h=>by
  simp only [noLs,Bool.and_eq_true]
  exact ⟨h d List.mem_cons_self,noLs_all fun e m=>h e (List.mem_cons_of_mem _ m)⟩
theorem Yd.append {K:W.Frag} {H:Hp}:∀ {ds es:List D} {vs ws:List V},Yd K H ds vs->Yd K H es ws->Yd K H (ds++es) (vs++ws)
 | [],es,vs,ws,h,h'=>by
  have e:vs=[]:=h
  subst e
  exact h'
 | d::ds,es,vs,ws,h,h'=>by
  obtain ⟨v,r,e,q,t⟩:=h
  subst e
  exact ⟨v,r++ws,rfl,q,Yd.append t h'⟩
theorem Yd.one {K:W.Frag} {H:Hp} {d:D} {v:V} (h:Vu K H d v):Yd K H [d] [v]:=⟨v,[],rfl,h,rfl⟩
theorem Yd.take {K:W.Frag} {H:Hp}:∀ {ds:List D} {vs:List V} (n:Nat),Yd K H ds vs->Yd K H (ds.take n) (vs.take n)
 | ds,vs,0,_=>rfl
 | [],vs,n+1,h=>by
  have e:vs=[]:=h
  subst e
  rfl
 | d::ds,vs,n+1,h=>by
  obtain ⟨v,r,e,q,t⟩:=h
  subst e
  exact ⟨v,r.take n,rfl,q,Yd.take n t⟩
def pairsD:List D->List D->List D
 | a::as,b::bs=>.tup [a,b]::pairsD as bs
 | _,_=>[]
def Feed (H:Hp) (l:Addr):Prop:=∃ a b c d:Int,H l=some (.lst [.int a,.int b,.int c,.int d])
structure Step (l:Addr) (H H':Hp):Prop where
 keep:∀ x o,x≠l->H x=some o->H' x=some o
 feed:Feed H' l
theorem Step.refl {l:Addr} {H:Hp} (f:Feed H l):Step l H H:=⟨fun _ _ _ h=>h,f⟩
theorem Step.trans {l:Addr} {H H1 H2:Hp} (a:Step l H H1) (b:Step l H1 H2):Step l H H2:=⟨fun x o n h=>b.keep x o n (a.keep x o n h),b.feed⟩
theorem Step.free {l:Addr} {H H':Hp} (a:Step l H H') (f:Feed H l) {p:Addr} (h:H' p=none):H p=none:=by
 cases q:H p with
 | none=>rfl
 | some o =>
  by_cases e:p=l
  ·obtain ⟨_,_,_,_,z⟩:=a.feed
   rw [e,z] at h
   cases h
  ·rw [a.keep p o e q] at h
   cases h
theorem Feed.put {l p:Addr} {H:Hp} {o:HO} (f:Feed H l) (h:p≠l):Feed (Z3 H p o) l:=by
 obtain ⟨a,b,c,d,e⟩:=f
 exact ⟨a,b,c,d,by rw [Zk h.symm]; exact e⟩
theorem Feed.ne {l p:Addr} {H:Hp} (f:Feed H l) (h:H p=none):p≠l:=fun e=>by
 obtain ⟨a,b,c,d,q⟩:=f
 rw [e,q] at h
 cases h
theorem Step.put {l p:Addr} {H H':Hp} {o:HO} (a:Step l H H') (n:p≠l) (h:H p=none):Step l H (Z3 H' p o) :=
 ⟨fun x u q e=>by rw [Zk (Z4 e h)]; exact a.keep x u q e,a.feed.put n⟩
theorem Step.lay {l p:Addr} {H H':Hp} {o:HO} (a:Step l H H') (f:Feed H l) (h:H' p=none):Step l H (Z3 H' p o):=a.put (a.feed.ne h) (a.free f h)
theorem Step.same {l:Addr} {H H1 H2:Hp} (a:Step l H H1) (b:Zv H1 H2):Step l H H2 :=
 ⟨fun x o n h=>b _ _ (a.keep x o n h),let ⟨x,y,z,u,e⟩:=a.feed; ⟨x,y,z,u,b _ _ e⟩⟩
theorem Step.up {K:W.Frag} {l:Addr} {H H':Hp} (a:Step l H H') (f:Feed H l):Up K H H':=fun c xs h=>by
 have ne:∀ o,H c=some o->(∀ ys,o≠.lst ys)->c≠l:=fun o e n q=>by
  obtain ⟨_,_,_,_,z⟩:=f
  rw [q,z] at e
  cases e
  exact n _ rfl
 rcases h with (h | ⟨o,h⟩) | h
 ·exact .inl (.inl (a.keep _ _ (ne _ h fun _ z=>nomatch z) h))
 ·exact .inl (.inr ⟨o,a.keep _ _ (ne _ h fun _ z=>nomatch z) h⟩)
 ·exact .inr h
theorem up_set {K:W.Frag} {H:Hp} {p:Addr} {o:HO} {ys:List V} (h:H p=some (.lst ys)):Up K H (Z3 H p o):=fun c xs q=>by
 have ne:∀ u,H c=some u->(∀ ys,u≠.lst ys)->c≠p:=fun u e n z=>by
  rw [z,h] at e
  cases e
  exact n _ rfl
 rcases q with (q | ⟨u,q⟩) | q
 ·exact .inl (.inl (by rw [Zk (ne _ q fun _ z=>nomatch z)]; exact q))
 ·exact .inl (.inr ⟨u,by rw [Zk (ne _ q fun _ z=>nomatch z)]; exact q⟩)
 ·exact .inr q
structure Good where
 whole:Int->Prop
 text:Str->Prop
 name:Str->Prop
 num:Int->Prop
 names:List Str->Prop
 nums:List Int->Prop
def Itm (G:Good):Nat->D->Prop
 | 0,_=>False
 | k+1,d=>(∃ n,d=.tup [.str "whole",.int n]/\G.whole n)\/(∃ x,d=.tup [.str "text",.str x]/\G.text x) \/
   (∃ n e,d=.tup [.str "arm",.int n,e]/\G.num n/\Itm G k e)\/(∃ es,d=.tup [.str "row",.tup es]/\es.length<=3/\∀ e∈es,Itm G k e) \/
   (∃ ks es,d=.tup [.str "map",.tup (pairsD (ks.map D.str) es)]/\ks.length=es.length/\es.length<=3/\G.names ks/\∀ e∈es,Itm G k e) \/
   (∃ ks es,d=.tup [.str "rec",.tup (pairsD (ks.map D.int) es)]/\ks.length=es.length/\es.length<=3/\G.nums ks/\∀ e∈es,Itm G k e)
theorem noLs_pairs:∀ {as bs:List D},(∀ d∈as,noL d=true)->(∀ d∈bs,noL d=true)->noLs (pairsD as bs)=true
 | [],_,_,_=>by simp [pairsD,noLs]
 | _::_,[],_,_=>by simp [pairsD,noLs]
 | a::as,b::bs,h1,h2=>by
  have r:=noLs_pairs (as:=as) (bs:=bs) (fun d m=>h1 d (List.mem_cons_of_mem _ m)) fun d m=>h2 d (List.mem_cons_of_mem _ m)
  simp only [pairsD,noLs,noL,h1 a List.mem_cons_self,h2 b List.mem_cons_self,r,Bool.and_self]
theorem Itm.noL {G:Good}:∀ {k:Nat} {d:D},Itm G k d->noL d=true
 | 0,_,h=>h.elim
 | k+1,d,h=>by
  rcases h with ⟨n,rfl,_⟩ | ⟨x,rfl,_⟩ | ⟨n,e,rfl,_,i⟩ | ⟨es,rfl,_,i⟩ | ⟨ks,es,rfl,_,_,_,i⟩ | ⟨ks,es,rfl,_,_,_,i⟩
  ·rfl
  ·rfl
  ·simp only [L2.noL,noLs,Bool.true_and,Bool.and_true]; exact Itm.noL i
  ·simp only [L2.noL,noLs,Bool.true_and,Bool.and_true]; exact noLs_all fun e m=>Itm.noL (i e m)
  ·simp only [L2.noL,noLs,Bool.true_and,Bool.and_true]
   refine noLs_pairs (fun d m=>?_) fun e m=>Itm.noL (i e m)
   obtain ⟨x,_,rfl⟩:=List.mem_map.mp m
   rfl
  ·simp only [L2.noL,noLs,Bool.true_and,Bool.and_true]
   refine noLs_pairs (fun d m=>?_) fun e m=>Itm.noL (i e m)
   obtain ⟨x,_,rfl⟩:=List.mem_map.mp m
   rfl
theorem Itm.noLs {G:Good} {k:Nat} {ds:List D} (h:∀ d∈ds,Itm G k d):noLs ds=true:=noLs_all fun d m=>(h d m).noL
section
variable {X:Cx}
theorem Zo (i:Nat) {x:Str} {e:Expr} {te:TE} {pos pos':Pos} (hN:X.N.Nodup) (hi:X.N[i]?=some x) (hx:Loc X.env.scope x) (he:PE X e te)
  (hs:swapsWith e (some (.Name x pos')) pos.line X.env=pure false:=by rfl) (hf:X.fn x=true\/X.env.scope.names.lookup x=some .local:=by first | exact .inl rfl | exact .inr rfl | assumption) :
  PS X (.Assign [.Name x pos'] e pos) (tAsg te (gName i)):=ps_set hN hi hx he hs hf
theorem Zn (i:Nat) {x:Str} {pos:Pos} (hN:X.N.Nodup) (hi:X.N[i]?=some x) (hx:Loc X.env.scope x)
  (hf:X.fn x=true\/X.env.scope.names.lookup x=some .local:=by first | exact .inl rfl | exact .inr rfl | assumption):PG X (.Name x pos) (gName i):=pg_name hN hi hx hf
theorem Yw (NX:List Str) (outer:Scope) (N:List Str) (fr:List (Option Nat)) {scope:Scope} {tg elt iter:Expr} {ifs:List Expr} {pos:Pos} {wi:TI} {g:DG} {tt:DT} {te:DE} (hc:X.calm=true) (hi:PI X tg iter wi)
  (C:CompFr X NX outer scope N fr) (hg:∀ fp s H,PG (Yp X scope N fp s H) tg (g fp s H)) (ht:∀ fp s H,PTs (Yp X scope N fp s H) ifs (tt fp s H)) (he:∀ fp s H,PE (Yp X scope N fp s H) elt (te fp s H))
  (hs:∀ x,foldedSetIterable iter X.env x=pure x:=by intro _; rfl):PE X (.ListComp elt [⟨tg,iter,ifs,0⟩] scope pos) (tComp wi fr g tt te):=pe_comp hc hi C hg ht he hs
theorem Vy (i:Nat) (NX:List Str) (outer:Scope) (N:List Str) (fr:List (Option Nat)) {scope:Scope} {tg elt iter:Expr} {ifs:List Expr} {pos pos' pos2:Pos} {wi:TI} {g:DG} {tt:DT} {te:DE} {x:Str} (hN:X.N.Nodup) (hix:X.N[i]?=some x)
  (hx:Loc X.env.scope x) (hc:X.calm=true) (hi:PI X tg iter wi) (C:CompFr X NX outer scope N fr) (hg:∀ fp s H,PG (Yp X scope N fp s H) tg (g fp s H)) (ht:∀ fp s H,PTs (Yp X scope N fp s H) ifs (tt fp s H))
  (he:∀ fp s H,PE (Yp X scope N fp s H) elt (te fp s H)) (hsw:swapsWith (.ListComp elt [⟨tg,iter,ifs,0⟩] scope pos) (some (.Name x pos')) pos2.line X.env=pure true:=by rfl)
  (hs:∀ x,foldedSetIterable iter X.env x=pure x:=by intro _; rfl) (hf:X.fn x=true\/X.env.scope.names.lookup x=some .local:=by first | exact .inl rfl | exact .inr rfl | assumption) :
  PS X (.Assign [.Name x pos'] (.ListComp elt [⟨tg,iter,ifs,0⟩] scope pos) pos2) (tAsg (tComp wi fr g tt te) (gName i)):=ps_setComp hN hix hx hc hi C hg ht he hsw hs hf
end
end L2
namespace DctE
open PySem PySem.SeqAt PySem.MeetsSeq
open PySem.AutoSeq1 (wpAny_loadPart')
end DctE
namespace L2
open PySem PySem.Spec PyProof.Rows
section
variable {X:Cx} {pins:List (Addr × Obj)} {σ:St} {H H':Hp} {s:Shared} {h':Heap}
theorem Zs.turnLay {t':Nat} {fp:List Addr} {a:Addr} {o:HO} (I:Zs X pins σ H s) (k:∀ b u,b ∉ fp->s.heap.get? b=some u->h'.get? b=some u) (hf:∀ b∈fp,FpOk X pins H b) (hp:s.heap.objs.size<=a) (new:Yu X.prog X.w (Z3 H a o) h' a o) :
  Zs X pins σ (Z3 H a o) { s with heap:=h',toks:=t' }:=by
 have hn:=I.hok.fresh hp
 have nf:∀ b u,H b=some u->b ∉ fp:=fun b u e m=>by
  have z:=(hf b m).1
  rw [e] at z
  cases z
 have na:∀ b u,s.heap.get? b=some u->b≠a:=fun b u e=>Nat.ne_of_lt (Nat.lt_of_lt_of_le (Heap.lt_size e) hp)
 refine I.call (g':=s.gens) (d':=s.drawn) (ch:=fp) ⟨fun b u e _ _ hx=>k b u hx e,fun b u e _ _ hx=>⟨u.slots,k b u hx e⟩,fun b u e n _=>by rw [Zk (na b u e)]; exact n,fun b u e hx=>⟨u,k b u hx e⟩,
  fun b xs e=>by rw [Zk (Z4 e hn)]; exact e,fun b ob u e=>by rw [Zk (Z4 e hn)]; exact e,fun b ps e=>⟨#[],by rw [Zk (Z4 e hn)]; simp [e]⟩⟩ (fun b u e=>?_) I.bare
  fun b hb=>⟨(hf b hb).2.2.2.1,(hf b hb).2.1,(hf b hb).2.2.2.2.1,(hf b hb).2.2.2.2.2⟩
 by_cases hb:b=a
 ·subst hb
  rw [Zz] at e
  cases e
  exact new
 ·rw [Zk hb] at e
  refine (I.hok b u e).stay (fun c v hc q=>k c v ?_ q) (fun c q=>by rw [Zk (Z4 q hn)]; exact q) fun c xs q=>by rw [Zk (Z4 q hn)]; exact q
  rcases hc with z | z
  ·rw [z]; exact nf b u e
  ·exact nf c _ z
theorem Zs.turnL {t':Nat} {fp:List Addr} (I:Zs X pins σ H s) (k:∀ b u,b ∉ fp->s.heap.get? b=some u->h'.get? b=some u) (hf:∀ b∈fp,FpOk X pins H b) :
  Zs X pins σ H { s with heap:=h',toks:=t' }:=by
 have nf:∀ b u,H b=some u->b ∉ fp:=fun b u e m=>by
  have z:=(hf b m).1
  rw [e] at z
  cases z
 refine I.call (g':=s.gens) (d':=s.drawn) (ch:=fp) ⟨fun b u e _ _ hx=>k b u hx e,fun b u e _ _ hx=>⟨u.slots,k b u hx e⟩,fun b u e n _=>n,fun b u e hx=>⟨u,k b u hx e⟩,
  fun b xs e=>e,fun b ob u e=>e,fun b ps e=>⟨#[],by simp [e]⟩⟩ (fun b u e=>?_) I.bare
  fun b hb=>⟨(hf b hb).2.2.2.1,(hf b hb).2.1,(hf b hb).2.2.2.2.1,(hf b hb).2.2.2.2.2⟩
 refine (I.hok b u e).stay (fun c v hc q=>k c v ?_ q) (fun c q=>q) fun c xs q=>q
 rcases hc with z | z
 ·rw [z]; exact nf b u e
 ·exact nf c _ z
end
section
variable {X:Cx} {pos:Pos}
def tDct0:TE:=fun _ H Q=>∀ p,H p=none->Q (.ref p) (Z3 H p (.dK []))
theorem pe_dct0:PE X (.Dict [] [] pos) tDct0:=fun pins s σ H Q I h =>
 wpAny_Dict_empty ⟨.ref s.heap.objs.size,_,I.laid (a:=s.heap.objs.size) (o:=.dK []) (t':=s.toks) (fun _ _ q=>Heap.get?_push_of_some _ q) (Nat.le_refl _)
  ⟨Nat.zero_le _,beq_eq_false_iff_ne.mpr (Ne.symm (Nat.ne_of_lt (Nat.lt_trans (by decide) (I.mod.glob.keeps I.bk).lt))),[],.nil,Heap.DictOf.new s.heap⟩,rfl,h _ (I.hok.fresh (Nat.le_refl _))⟩
def repS (i:Str) (n:Nat):Str:=⟨(List.replicate n i.cps).foldl (·++·) #[]⟩
theorem rep_go (a:Array Nat):∀ (n:Nat) (acc:Array Nat),((List.replicate n a).foldl (·++·) acc).toList=acc.toList++(List.replicate n a.toList).flatten
 | 0,acc=>by simp
 | n+1,acc=>by
  rw [List.replicate_succ,List.foldl_cons,rep_go a n (acc++a),List.replicate_succ,List.flatten_cons,Array.toList_append,List.append_assoc]
theorem repS_codes (i:Str) (n:Nat):(repS i n).cps.toList=(List.replicate n i.cps.toList).flatten:=by
 show ((List.replicate n i.cps).foldl (·++·) #[]).toList=_
 rw [rep_go]
 rfl
theorem repS_len (i:Str) (n:Nat):(repS i n).length=n * i.length:=by
 show (repS i n).cps.size=n * i.cps.size
 rw [<-Array.length_toList,repS_codes,len_rep,Array.length_toList]
theorem op_repS:OpR X (binaryOp .Mult) (fun x y H Q=>∃ (i:Str) (n:Int),x=.str i/\y=.int n/\2<=n/\n<=1000/\i.length≠0/\i.length<=1000/\Q (.str (repS i n.toNat)) H):=by
 intro pins s σ H x y v u Q I rx ry h
 obtain ⟨i,n,rfl,rfl,n2,n1,i0,i1,q⟩:=h
 obtain ⟨t,rfl⟩:=rx
 obtain ⟨t',rfl⟩:=ry
 have c1:¬ n<1:=by omega
 have c2:(n == 1 || i.length == 0)=false:=by
  rw [Bool.or_eq_false_iff]
  exact ⟨beq_eq_false_iff_ne.mpr (by omega),beq_eq_false_iff_ne.mpr i0⟩
 have hm:i.length * n.toNat<=1000000:=Nat.le_trans (Nat.mul_le_mul i1 (show n.toNat<=1000 by omega)) (by decide)
 refine PySem.P.mul_str ?_ (fun _ _=>?_) (fun _ _=>?_) ?_
 ·rw [Bool.or_eq_false_iff]
  exact ⟨decide_eq_false (by omega),decide_eq_false (by omega)⟩
 ·intro z
  have hn0:(0:Int)<n:=by omega
  have h1:(1000:Int) * n<=2 ^ 63 - 1:=by omega
  have h2:=(Int.le_ediv_iff_mul_le hn0).mpr h1
  omega
 ·show decide (i.length * n.toNat>sizeLine)=false
  exact decide_eq_false (Nat.not_lt_of_le (Nat.le_trans hm (by decide)))
 ·rw [if_neg c1,if_neg (by rw [c2]; decide)]
  have hl:(repS i n.toNat).length<=sizeLine:=by rw [repS_len,Nat.mul_comm]; exact Nat.le_trans hm (by decide)
  exact ⟨hl,⟨.str _,H,I.tok _,⟨_,rfl⟩,q⟩⟩
end
section
variable {X:Cx} {tg l:Expr} {tl:TE}
end
section
variable {X:Cx} {es:List Expr} {k:Nat} {p2 pos pos2:Pos} {a b:Expr} {t:TA}
end
section
variable {X:Cx}
theorem op_catT0:OpR X (binaryOp .Add) (fun x y H Q=>∃ l b zs,x=.ref l/\y=.ref b/\Z6 X.K H l []/\Z6 X.K H b zs/\Q (.ref b) H):=by
 intro pins s σ H x y v u Q I rx ry h
 obtain ⟨l,b,zs,rfl,rfl,hl,hb,q⟩:=h
 cases rx
 cases ry
 obtain ⟨i1,r1,p1,z1⟩:=I.tuple hl
 obtain ⟨i2,r2,p2,z2⟩:=I.tuple hb
 have e1:i1=[]:=by cases r1; rfl
 subst e1
 obtain ⟨⟨c1,d1,t1,s1⟩,o1,k1,n1,m1⟩:=id p1
 obtain ⟨⟨c2,d2,t2,s2⟩,o2,k2,n2,m2⟩:=id p2
 simp only at k1 m1 k2 m2
 subst k1 m1 k2 m2
 exact concat_meets ⟨_,o1,rfl⟩ ⟨_,o2,rfl⟩ noFill_tuple_add seq_tuple_add PySem.F.slot_tuple_add PySem.F.entry_tuple_add (PySem.F.args_tuple_add_2 _ _) (tuple_addW0 l b _ _ n1 n2 d1 d2 s1 s2 rfl) ⟨o1,o2,⟨.ref b,H,I,rfl,q⟩⟩
end
end L2
namespace HT
open PySem PySem.Spec PyProof.Rows
section
variable {prog:Program} {w:World} {A:Around} {E:Value->Shared->Prop} {s:Shared}
theorem getItem_tuple_whole {t sl:Addr} {items:Array Value} {vl vu:Value} {lo hi:Option Int} {Q:Value->Shared->Prop} (ht:IsTup s.heap t items) (hs:s.heap.IsSliceOf sl vl vu .none) (pl:IsPart vl lo) (pu:IsPart vu hi)
  (hw:Vb items.size 0 lo=0/\Vb items.size items.size hi=items.size) (h:Q (.ref t) s):wpAny (model prog w) A (getItem (.ref t) (.ref sl)) Q E s:=by
 obtain ⟨os,hos,hcs,hds⟩:=id hs
 have hTs:s.TypeIs (.ref sl) "slice" := ⟨os,hos,hcs⟩
 unfold getItem
 try with_reducible refine wpAny_holding ?_
 first | refine wpAny_bind (wpAny_pure ?_) | skip
 refine wpAny_bind (wpAny_sequenceKey ht.typeIs (by decide) ?_)
 refine wpAny_bind (wpAny_callSpecial?_slot (name:=Str.ofString "__getitem__") ht.typeIs slot_tuple_getitem
  (wpAny_call_entry slot_tuple_getitem ht.typeIs entry_tuple_getitem ?_ (args_tuple_getitem _ _)))
 show wpAny _ _ (Builtin.Tuple.tupleItemsOf (.ref t) >>= _) _ _ s
 refine wpAny_bind (tupleItemsOf_ ht ?_)
 refine wpAny_bind (wpAny_typeOf hTs ?_)
 rw [if_pos (by decide)]
 refine wpAny_bind (sliceApplied_gen hs pl pu ?_)
 have hyes:(((Vb items.size 0 lo:Nat):Int) == 0 && (1:Int) == 1 && (Vb items.size items.size hi - Vb items.size 0 lo) == items.size)=true:=by
  rw [hw.1,hw.2]
  simp
 show wpAny _ _ (if (((Vb items.size 0 lo:Nat):Int) == 0 && (1:Int) == 1 && (Vb items.size items.size hi - Vb items.size 0 lo) == items.size)=true then _ else _) _ _ s
 rw [if_pos hyes]
 refine wpAny_bind (m:=Builtin.Tuple.tupleIsExact (.ref t)) (wpAny_bind (wpAny_typeOf ht.typeIs (wpAny_pure ?_)))
 rw [if_pos (by decide)]
 exact wpAny_bind (wpAny_rule (wpAny_pure ⟨_,rfl,wpAny_pure h⟩))
end
end HT
namespace L2
open PySem PySem.Spec PyProof.Rows
section
variable {X:Cx} {e:Expr} {te:TE} {lo hi:Option Expr} {tl th:TO} {pos p2 p3 p4:Pos} {j1:Nat}
theorem Zv.lay {H:Hp} {p:Addr} {o:HO} (h:H p=none):Zv H (Z3 H p o):=fun b u q=>by rw [Zk (Z4 q h)]; exact q
def rSlG (K:W.Frag):V->Option Int->Option Int->Hp->VK->Prop:=fun x lo hi H Q=>∃ a xs,x=.ref a/\Z6 K H a xs/\∀ p H',Zv H H'->Z6 K H' p (cutV xs lo hi)->Q (.ref p) H'
theorem sl_tupG:SlR X (rSlG X.K):=by
 intro pins s σ H x v vl vu lo hi sl Q I rx hs pl pu h
 obtain ⟨a,xs,rfl,hx,q⟩:=h
 by_cases hw:HT.Vb xs.length 0 lo=0/\HT.Vb xs.length xs.length hi=xs.length
 ·cases rx
  obtain ⟨its,r,ht,hz⟩:=I.tuple hx
  have hlen:its.toArray.size=xs.length:=by rw [List.size_toArray]; exact r.length.symm
  refine ⟨"tuple",_,slot_tuple_getitem.lookup,ht.typeIs, ?_⟩
  refine HT.getItem_tuple_whole ht hs pl pu (by rw [hlen]; exact hw) ⟨.ref a,H,I,rfl,q a H (Zv.refl H) ?_⟩
  have e:cutV xs lo hi=xs:=by
   unfold cutV
   rw [hw.1,hw.2,List.drop_zero,Nat.sub_zero,List.take_length]
  rw [e]
  exact hx
 ·exact sl_tup pins s σ H _ v vl vu lo hi sl Q I rx hs pl pu ⟨a,xs,rfl,hx,hw,fun p hp=>q p _ (Zv.lay hp) (Z6.of Zz)⟩
def rCatG (K:W.Frag):R2:=fun x y H Q=>∃ a b xs ys,x=.ref a/\y=.ref b/\Z6 K H a xs/\Z6 K H b ys/\xs.length+ys.length<=sizeLine/\∀ p H',Zv H H'->Z6 K H' p (xs++ys)->Q (.ref p) H'
theorem op_catG:OpR X (binaryOp .Add) (rCatG X.K):=by
 intro pins s σ H x y v u Q I rx ry h
 obtain ⟨a,b,xs,ys,rfl,rfl,ha,hb,hz,q⟩:=h
 cases xs with
 | nil=>exact op_catT0 pins s σ H _ _ v u Q I rx ry ⟨a,b,ys,rfl,rfl,ha,hb,q b H (Zv.refl H) hb⟩
 | cons x xs =>
  refine op_catT pins s σ H _ _ v u Q I rx ry ⟨a,b,x::xs,ys,rfl,rfl,ha,hb,(fun z=>nomatch z),hz,fun e=>?_,fun _ p hp=>q p _ (Zv.lay hp) (Z6.of Zz)⟩
  subst e
  exact q a H (Zv.refl H) (by rw [List.append_nil]; exact ha)
end
structure FnV (X:Cx) (f:Addr) (ps:List Str) (sp:Sp):Prop where
 ok:∃ k fd,Y4 X.prog X.w X.K X.mg X.base CX0 k f fd ps sp/\Binds X.K fd ps []/\Vr k X.A
 kp:W.keepIn X.K (.ref f)=true
section
variable {X:Cx} {x:Str} {p pos:Pos} {e:Expr} {es:List Expr} {tn:TE} {t:TA} {Y:Cx->Addr->List Str->Sp->Prop}
end
inductive Th where
 | non | bl (b:Bool) | int (i:Int) | str (x:Str) | tup (ts:List Th) | opq
mutual
def Zd (K:W.Frag) (H:Hp):Th->V->Prop
 | .non,v=>v=.non
 | .bl b,v=>v=.bl b
 | .int i,v=>v=.int i
 | .str x,v=>v=.str x
 | .tup ts,v=>∃ a vs,v=.ref a/\Z6 K H a vs/\Zw K H ts vs
 | .opq,v=>∃ a,v=.ref a/\((∃ xs,H a=some (.lst xs))\/∃ kvs,H a=some (.dK kvs))
def Zw (K:W.Frag) (H:Hp):List Th->List V->Prop
 | [],vs=>vs=[]
 | t::ts,vs=>∃ v r,vs=v::r/\Zd K H t v/\Zw K H ts r
end
structure Vc (K:W.Frag) (H H':Hp):Prop where
 tup:Up K H H'
 lst:∀ a xs,H a=some (.lst xs)->∃ ys,H' a=some (.lst ys)
 dct:∀ a kvs,H a=some (.dK kvs)->H' a=some (.dK kvs)
 frz:∀ a o kvs,H a=some (.frz o (.dK kvs))->H' a=some (.frz o (.dK kvs))
section
variable {K:W.Frag} {H H1 H':Hp}
theorem Vc.refl (H:Hp):Vc K H H:=⟨Up.refl H,fun _ xs h=>⟨xs,h⟩,fun _ _ h=>h,fun _ _ _ h=>h⟩
theorem Vc.trans {H2:Hp} (a:Vc K H H1) (b:Vc K H1 H2):Vc K H H2:=⟨a.tup.trans b.tup,fun p xs h=>let ⟨_,e⟩:=a.lst p xs h; b.lst p _ e,fun p k h=>b.dct p k (a.dct p k h),fun p o k h=>b.frz p o k (a.frz p o k h)⟩
theorem Zv.upT (e:Zv H H'):Vc K H H':=⟨e.up,fun a xs h=>⟨xs,e _ _ h⟩,fun a k h=>e _ _ h,fun a o k h=>e _ _ h⟩
theorem Step.upT {l:Addr} (a:Step l H H') (f:Feed H l):Vc K H H':=by
 obtain ⟨x,y,z,w,e⟩:=id f
 refine ⟨a.up f,fun p xs h=>?_,fun p k h=>?_,fun p o k h=>?_⟩
 ·by_cases q:p=l
  ·obtain ⟨_,_,_,_,e'⟩:=a.feed
   exact ⟨_,by rw [q]; exact e'⟩
  ·exact ⟨xs,a.keep p _ q h⟩
 ·refine a.keep p _ (fun q=>?_) h
  rw [q,e] at h
  cases h
 ·refine a.keep p _ (fun q=>?_) h
  rw [q,e] at h
  cases h
theorem Yv {p:Addr} {ys zs:List V} (h:H p=some (.lst ys)):Vc K H (Z3 H p (.lst zs)):=by
 refine ⟨up_set h,fun q xs e=>?_,fun q k e=>?_,fun q o k e=>?_⟩
 ·by_cases z:q=p
  ·exact ⟨zs,by rw [z,Zz]⟩
  ·exact ⟨xs,by rw [Zk z]; exact e⟩
 ·rw [Zk (fun z=>by rw [z,h] at e; cases e)]
  exact e
 ·rw [Zk (fun z=>by rw [z,h] at e; cases e)]
  exact e
mutual
theorem Zd.up (u:Vc K H H'):∀ (t:Th) (v:V),Zd K H t v->Zd K H' t v
 | .non,_,h=>h
 | .bl _,_,h=>h
 | .int _,_,h=>h
 | .str _,_,h=>h
 | .tup ts,v,h=>by
  obtain ⟨a,vs,e,q,r⟩:=h
  exact ⟨a,vs,e,u.tup a vs q,Zw.up u ts vs r⟩
 | .opq,v,h=>by
  obtain ⟨a,e,q⟩:=h
  refine ⟨a,e, ?_⟩
  rcases q with ⟨xs,q⟩ | ⟨k,q⟩
  ·exact .inl (u.lst a xs q)
  ·exact .inr ⟨k,u.dct a k q⟩
theorem Zw.up (u:Vc K H H'):∀ (ts:List Th) (vs:List V),Zw K H ts vs->Zw K H' ts vs
 | [],_,h=>h
 | t::ts,vs,h=>by
  obtain ⟨v,r,e,q,w⟩:=h
  exact ⟨v,r,e,Zd.up u t v q,Zw.up u ts r w⟩
end
theorem Zw.length:∀ {ts:List Th} {vs:List V},Zw K H ts vs->ts.length=vs.length
 | [],vs,h=>by
  have e:vs=[]:=h
  subst e; rfl
 | t::ts,vs,h=>by
  obtain ⟨v,r,rfl,_,w⟩:=h
  simp only [List.length_cons,Zw.length w]
theorem Zw.get:∀ {ts:List Th} {vs:List V} {i:Nat} {t:Th},Zw K H ts vs->ts[i]?=some t->∃ v,vs[i]?=some v/\Zd K H t v
 | [],vs,i,t,_,e=>by simp at e
 | t::ts,vs,0,t',h,e=>by
  obtain ⟨v,r,rfl,q,_⟩:=h
  simp at e; subst e
  exact ⟨v,rfl,q⟩
 | t::ts,vs,i+1,t',h,e=>by
  obtain ⟨v,r,rfl,_,w⟩:=h
  obtain ⟨v',e1,q⟩:=Zw.get (i:=i) w (by simpa using e)
  exact ⟨v',by simpa using e1,q⟩
theorem Zw.got:∀ {ts:List Th} {vs:List V} {i:Nat} {v:V},Zw K H ts vs->vs[i]?=some v->∃ t,ts[i]?=some t/\Zd K H t v:=fun {ts vs i v} h e=>by
 have hi:=(List.getElem?_eq_some_iff.mp e).1
 have hi':i<ts.length:=by rw [h.length]; exact hi
 obtain ⟨v',e1,q⟩:=h.get (List.getElem?_eq_getElem hi')
 rw [e] at e1; cases e1
 exact ⟨_,List.getElem?_eq_getElem hi',q⟩
theorem Zw.append:∀ {ts us:List Th} {vs ws:List V},Zw K H ts vs->Zw K H us ws->Zw K H (ts++us) (vs++ws)
 | [],us,vs,ws,h,h'=>by
  have e:vs=[]:=h
  subst e; exact h'
 | t::ts,us,vs,ws,h,h'=>by
  obtain ⟨v,r,rfl,q,w⟩:=h
  exact ⟨v,r++ws,rfl,q,Zw.append w h'⟩
theorem Zw.one {t:Th} {v:V} (h:Zd K H t v):Zw K H [t] [v]:=⟨v,[],rfl,h,rfl⟩
theorem Zw.drop:∀ {ts:List Th} {vs:List V} (n:Nat),Zw K H ts vs->Zw K H (ts.drop n) (vs.drop n)
 | ts,vs,0,h=>h
 | [],vs,n+1,h=>by
  have e:vs=[]:=h
  subst e; rfl
 | t::ts,vs,n+1,h=>by
  obtain ⟨v,r,rfl,_,w⟩:=h
  exact Zw.drop n w
theorem Zw.take:∀ {ts:List Th} {vs:List V} (n:Nat),Zw K H ts vs->Zw K H (ts.take n) (vs.take n)
 | ts,vs,0,_=>rfl
 | [],vs,n+1,h=>by
  have e:vs=[]:=h
  subst e; rfl
 | t::ts,vs,n+1,h=>by
  obtain ⟨v,r,rfl,q,w⟩:=h
  exact ⟨v,r.take n,rfl,q,Zw.take n w⟩
end
section
variable {X:Cx}
def rEqNil (K:W.Frag) (A:Around):R2:=fun x y H Q=>∃ a b xs,x=.ref a/\y=.ref b/\Z0 K H a xs/\Z0 K H b []/\A.units<cLine/\Q (.bl xs.isEmpty) H
theorem op_eqNil:OpR X (compareOp .Eq) (rEqNil X.K X.A):=by
 intro pins s σ H x y v u Q I rx ry h
 obtain ⟨a,b,xs,rfl,rfl,ha,hb,hu,q⟩:=h
 cases rx
 cases ry
 obtain ⟨i1,r1,p1,z1⟩:=I.list ha
 obtain ⟨i2,r2,p2,z2⟩:=I.list hb
 have e2:i2=[]:=by cases r2; rfl
 subst e2
 cases xs with
 | nil =>
  have e1:i1=[]:=by cases r1; rfl
  subst e1
  have:=SeqAt.RcAt.lists (A:=X.A) (e:=fun _=>true) p1.isList p2.isList rfl hu (fun j h1 h2=>absurd h1 (by simp))
  exact this X.prog X.w X.xe _ ⟨.bl _,H,I,rfl,q⟩
 | cons x xs =>
  have hl:=r1.length
  exact SeqAt.RcAt.lists_lengths (A:=X.A) p1.isList p2.isList (by rw [List.size_toArray, <-hl]; rfl) hu X.prog X.w X.xe _ ⟨.bl _,H,I,rfl,q⟩
end
theorem goOn {τ:St} {o:Option V} {v:V} {H:Hp} {tt:TT} {A B:St->Hp->Prop} (h:tt (some v::τ) H fun ok H3=>if ok=true then A (some v::τ) H3 else B (some v::τ) H3):gName 0 v (o::τ) H fun σ2 H2=>tt σ2 H2 fun ok H3=>if ok=true then A σ2 H3 else B σ2 H3:=h
theorem Vk {τ:St} {o:Option V} {v:V} {H:Hp} {A B:St->Hp->Prop} (h:A (some v::τ) H):gName 0 v (o::τ) H fun σ2 H2=>tAlways σ2 H2 fun ok H3=>if ok=true then A σ2 H3 else B σ2 H3:=by
 show if true=true then A (some v::τ) H else B (some v::τ) H
 rw [if_pos rfl]
 exact h
theorem Zr {α:Type} {xs:List α} {i:Nat} {x:α} (e:xs[i]?=some x):xs.take (i+1)=xs.take i++[x]:=by rw [List.take_add_one,e]; rfl
section
variable {K:W.Frag} {H:Hp} {a D:Addr} {xs:List V} {ts:List Th} {te:TE} {tt:TT} {fin:Hp->Prop} {τ:St} {o:Option V}
theorem compT_tup {f:Th->Th} (ha:Z6 K H a xs) (hA:Zw K H ts xs) (hl:ts.length<=1000000) (hD:H D=none)
  (h:∀ t v H5 (Q:VK),t∈ts->Zv H H5->Zd K H5 t v->(∀ v' H6,Zv H5 H6->Zd K H6 (f t) v'->Q v' H6)->te (some v::τ) H5 Q)
  (hf:∀ H6 ws,Zv H H6->H6 D=some (.lst ws)->Zw K H6 (ts.map f) ws->fin H6) :
  ∃ W:Nat->Nat->List V->St->Hp->Prop,(∃ m,W 0 m [] (o::τ) (Z3 H D (.lst [])))/\CompW (Itt K a) (gName 0) tAlways te D W fin:=by
 have hlen:=hA.length
 refine comp_tup (xs:=xs) (fun i ys σ H5=>(∃ o',σ=o'::τ)/\Zw K H5 ((ts.take i).map f) ys/\Zv H H5/\H5 D=some (.lst ys)) ⟨⟨_,rfl⟩,rfl,(Zv.refl H).put hD,Zz⟩ ?_ ?_ ?_
 ·rintro i ys σ H5 hi ⟨_,_,s5,h5⟩
  exact ⟨s5.up _ _ ha,h5⟩
 ·rintro i x ys σ H5 hx ⟨⟨o',rfl⟩,ar,s5,h5⟩
  obtain ⟨t,et,it⟩:=hA.got hx
  refine Vk (h t x H5 _ (List.mem_of_getElem? et) s5 (Zd.up s5.upT t x it) fun v' H6 s6 i6=>?_)
  refine ⟨s6 _ _ h5, ?_,⟨_,rfl⟩, ?_,(s5.trans s6).put hD,Zz⟩
  ·rw [<-ar.length,List.length_map,List.length_take]; exact Nat.lt_of_le_of_lt (Nat.le_trans (Nat.min_le_right _ _) hl) (by decide)
  ·rw [Zr et,List.map_append]
   have u6:Vc K H6 (Z3 H6 D (.lst (ys++[v']))):=Yv (s6 _ _ h5)
   exact Zw.append (Zw.up (s6.upT.trans u6) _ _ ar) (Zw.one (Zd.up u6 _ _ i6))
 ·rintro ys σ H5 ⟨_,ar,s5,h5⟩
  refine hf H5 ys s5 h5 ?_
  rw [<-hlen,List.take_length] at ar
  exact ar
end
end L2
namespace K01
open PySem PySem.Spec PyProof.Rows L2
def gdC (c:Nat):Prop:=32<=c/\c<=126/\c≠37
def gdS (x:Str):Prop:=∀ c∈x.cps.toList,gdC c
mutual
def gdT:Th->Prop
 | .str x=>gdS x/\x.length<=1000
 | .tup ts=>gdTs ts
 | _=>True
def gdTs:List Th->Prop
 | []=>True
 | t::ts=>gdT t/\gdTs ts
end
mutual
def szT:Th->Nat
 | .tup ts=>szTs ts+1
 | _=>1
def szTs:List Th->Nat
 | []=>0
 | t::ts=>szT t+szTs ts
end
mutual
def dpT:Th->Nat
 | .tup ts=>dpTs ts+1
 | _=>0
def dpTs:List Th->Nat
 | []=>0
 | t::ts=>max (dpT t) (dpTs ts)
end
mutual
def wdT:Th->Nat
 | .tup ts=>max ts.length (wdTs ts)
 | _=>0
def wdTs:List Th->Nat
 | []=>0
 | t::ts=>max (wdT t) (wdTs ts)
end
structure Fine (t:Th) (s d w:Nat):Prop where
 gd:gdT t
 sz:szT t<=s
 dp:dpT t<=d
 wd:wdT t<=w
end K01
namespace L2
open PySem PySem.Spec PyProof.Rows
section
variable {X:Cx}
end
end L2
namespace RevA
open PySem
section
variable {prog:Program} {w:World} {A:Around} {E:Value->Shared->Prop} {s:Shared} {r t:Addr} {its:Array Value} {i:Int}
def IsRv (h:Heap) (r t:Addr) (i:Int):Prop:=∃ o,h.get? r=some o/\o.cls=.type "reversed" /\ o.data=.fields #[.ref t,rawInt i]
theorem IsRv.ty (x:IsRv s.heap r t i):s.TypeIs (.ref r) "reversed" := let ⟨o,ho,hc,_⟩:=x; ⟨o,ho,hc⟩
end
end RevA
namespace RevA
open PySem PyProof.Rows
section
variable {prog:Program} {w:World} {A:Around} {E:Value->Shared->Prop} {s:Shared} {r t:Addr} {its:Array Value}
end
section
variable {prog:Program} {w:World} {A:Around} {E:Value->Shared->Prop} {s:Shared} {r t:Addr} {its:Array Value}
theorem IsRv.at {h h':Heap} {i:Int} (x:IsRv h r t i) (e:∀ o,h.get? r=some o->h'.get? r=some o):IsRv h' r t i:=let ⟨o,ho,q⟩:=x; ⟨o,e o ho,q⟩
end
section
variable {prog:Program} {w:World} {A:Around} {E:Value->Shared->Prop} {s:Shared} {R:Result->Shared->Prop} {I S:Addr} {fp wr:List Addr} {n:Nat} {P:Nat->Value->Prop} {St:Nat->Heap->Prop} {T:String}
end
section
variable {prog:Program} {w:World} {A:Around} {E:Value->Shared->Prop} {s:Shared} {I:Addr} {fp wr:List Addr} {n:Nat} {P:Nat->Value->Prop} {St:Nat->Heap->Prop} {T:String}
end
section
variable {prog:Program} {w:World} {A:Around} {E:Value->Shared->Prop} {s:Shared} {r t:Addr} {its:Array Value}
end
section
variable {prog:Program} {w:World} {A:Around} {E:Value->Shared->Prop} {s:Shared} {I:Addr} {fp wr:List Addr} {n:Nat} {P:Nat->Value->Prop} {St:Nat->Heap->Prop} {T:String}
end
section
variable {prog:Program} {w:World} {A:Around} {E:Value->Shared->Prop} {s:Shared}
end
end RevA
namespace IdxT
open PySem PySem.SeqAt PySem.MeetsSeq
open PySem.AutoSeq1 (wpAny_loadPart')
end IdxT
namespace L2
open PySem PySem.Spec PyProof.Rows
section
variable {X:Cx} {p p2 pos pos2:Pos} {a:Expr} {t:TA}
end
section
variable {X:Cx} {e:Expr} {t1 t2:TE}
end
section
variable {X:Cx} {p p2 pos pos2:Pos} {a:Expr} {t:TA}
end
section
variable {X:Cx}
structure TopD (K:W.Frag) (w:World) (a:Addr):Prop where
 at':∃ es n,K.lookup a=some ⟨.type "dict",none,.dict es n, #[]⟩/\W.KeysLit w.params es.toList
end
section
variable {X:Cx} {k:Nat} {C:Addr} {m x:Str} {ps:List Str} {sp:Sp} {o e:Expr} {es:List Expr} {ta:TE} {t:TA} {p pos apos:Pos}
end
end L2
namespace EnuT
open PySem
section
variable {prog:Program} {w:World} {A:Around} {E:Value->Shared->Prop} {s:Shared}
theorem nextT {it t:Addr} {i:Nat} {its:Array Value} {x:Value} {Q:Value->Shared->Prop} (hi:s.heap.IsTupleIter it t i) (ht:s.heap.IsTuple t its) (hx:its[i]?=some x)
  (q:∀ h',h'.IsTupleIter it t (i+1)->Heap.SameBut it s.heap h'->Q x { s with heap:=h' }):wpAny (model prog w) A (Builtin.SmallTypes.nextOf (.ref it)) Q E s:=by
 obtain ⟨u,hu,hc,hd⟩:=id hi; obtain ⟨p,hp,_,n,dp⟩:=ht; unfold Builtin.SmallTypes.nextOf
 refine wpAny_bind (wpAny_callSpecial?_slot (name:=Str.ofString "__next__") hi.typeIs F.slot_tuple_iterator_next (wpAny_call_entry F.slot_tuple_iterator_next hi.typeIs F.entry_tuple_iterator_next ?_ (F.args_tuple_iterator_next_1 _)))
 show wpAny _ _ (field (.ref it) 0 >>= _) _ _ s; refine wpAny_bind (wpAny_field hu hd (x:=.ref t) rfl ?_)
 show wpAny _ _ (if (Value.ref t == Value.none)=true then _ else _) _ _ s; rw [if_neg (show ¬ ((Value.ref t == Value.none)=true) from Bool.false_ne_true)]
 show wpAny _ _ (field (.ref it) 1 >>= _) _ _ s; refine wpAny_bind (wpAny_field hu hd (x:=.int i 0) rfl ?_)
 show wpAny _ _ (seqItems? (.ref t) >>= _) _ _ s; refine wpAny_bind (wpAny_seqItems hp dp ?_)
 simp only [Int.toNat_natCast,hx]; refine wpAny_bind (wpAny_setField hu hd (by simp) (wpAny_pure ⟨x,rfl,wpAny_pure (q _ ?_ (Heap.SameBut.update ..))⟩))
 exact ⟨_,Heap.get?_update_self _ hu (Obj.isFreed_of_fields (Obj.data_mapFields hd _)),(Obj.cls_mapFields ..).trans hc,by rw [Obj.data_mapFields hd]; simp [rawInt]⟩
theorem endT {it t:Addr} {i:Nat} {its:Array Value} {Q:Value->Shared->Prop} (hh:A.handled=none) (hi:s.heap.IsTupleIter it t i) (ht:s.heap.IsTuple t its) (hx:its[i]?=none)
  (q:∀ h' e,Heap.ExtBut it s.heap h'->(∃ o,h'.get? e=some o/\o.cls=.type "StopIteration")->E (.ref e) { s with heap:=h' }):wpAny (model prog w) A (Builtin.SmallTypes.nextOf (.ref it)) Q E s:=by
 obtain ⟨u,hu,hc,hd⟩:=id hi; obtain ⟨p,hp,_,n,dp⟩:=ht; unfold Builtin.SmallTypes.nextOf
 refine wpAny_bind (wpAny_callSpecial?_slot (name:=Str.ofString "__next__") hi.typeIs F.slot_tuple_iterator_next (wpAny_call_entry F.slot_tuple_iterator_next hi.typeIs F.entry_tuple_iterator_next ?_ (F.args_tuple_iterator_next_1 _)))
 show wpAny _ _ (field (.ref it) 0 >>= _) _ _ s; refine wpAny_bind (wpAny_field hu hd (x:=.ref t) rfl ?_)
 show wpAny _ _ (if (Value.ref t == Value.none)=true then _ else _) _ _ s; rw [if_neg (show ¬ ((Value.ref t == Value.none)=true) from Bool.false_ne_true)]
 show wpAny _ _ (field (.ref it) 1 >>= _) _ _ s; refine wpAny_bind (wpAny_field hu hd (x:=.int i 0) rfl ?_)
 show wpAny _ _ (seqItems? (.ref t) >>= _) _ _ s; refine wpAny_bind (wpAny_seqItems hp dp ?_)
 simp only [Int.toNat_natCast,hx]; refine wpAny_bind (wpAny_rule (wpAny_bind (wpAny_setField hu hd (by simp) ?_)))
 show wpAny _ _ (newExc (.type "StopIteration") [] >>= _) _ _ _; refine wpAny_bind ?_; simp only [newExc,newTuple]
 refine wpAny_bind (wpAny_newObj_type ?_ (by size_fits)); refine wpAny_bind (m:=firstArgMember _ _) (wpAny_of_eq (a:=Value.none) (by first | rfl | (simp only [firstArgMember]; rfl)) ?_)
 refine wpAny_newObj_type ?_ (by size_fits); simp only [raiseNew]; refine wpAny_bind (wpAny_handled ?_)
 first | rw [show A.in1.handled=none from hh] | rw [hh]
 refine wpAny_bind (wpAny_pure (wpAny_throw ?_)); exact q _ _ (((Heap.SameBut.update ..).extBut.push _).push _) ⟨_,Heap.get?_push_size _ rfl,rfl⟩
end
section
variable {prog:Program} {w:World} {A:Around} {E:Value->Shared->Prop} {s:Shared}
end
end EnuT
namespace L2
open PySem PySem.Spec PyProof.Rows
section
variable {X:Cx} {es:List Expr} {k:Nat} {p2 pos pos2:Pos} {a:Expr} {t:TA}
end
section
variable {X:Cx}
end
section
variable {X:Cx} {p p2 pos pos2:Pos} {a b:Expr} {t:TA}
end
end L2
namespace EX
open PySem
structure Noted (l:List Env) (e T:Addr) (oe:Obj) (h h':Heap):Prop where
 keep:∀ b o,b≠e->b ∉ l.filterMap (·.frame)->h.get? b=some o->h'.get? b=some o
 slot:∀ b o,b≠e->h.get? b=some o->∃ sl,h'.get? b=some { o with slots:=sl }
 exc:h'.get? e=some (oe.mapFields (·.setIfInBounds 1 (.ref T)))
 new:h.objs.size<=T
 tb:∃ oT ts,h'.get? T=some oT/\oT.data=.fields ts/\3<ts.size
section
variable {M:Model} {A:Around} {E:Value->Shared->Prop} {s:Shared} {env:Env} {outer:List Env} {base:Heap} {L e T:Addr} {oe:Obj} {vs:Array Value} {Q:Unit->Shared->Prop}
end
abbrev Lk {α:Type} (M:Model) (h:Heap) (t:Sem α) (r:α):Prop :=
 ∀ (A:Around) (Q:α->Shared->Prop) (E:Value->Shared->Prop) (s:Shared),(∀ b o,h.get? b=some o->s.heap.get? b=some o)->Q r s->wpAny M A t Q E s
section
variable {M:Model} {A:Around} {E:Value->Shared->Prop} {s:Shared} {env:Env}
end
section
variable {M:Model} {A:Around} {E:Value->Shared->Prop} {s:Shared} {env:Env}
end
section
variable {prog:Program} {w:World} {A:Around} {E:Value->Shared->Prop} {s:Shared} {env:Env}
end
section
variable {prog:Program} {w:World} {A:Around} {E:Value->Shared->Prop} {h:Heap} {g:Array GenState} {d:Drawn} {t:Nat} {os:OsState}
variable {nm q:Str} {C N:Addr} {bs bm bmB:List Value} {hdct:Bool} {sn:List Str} {sub:List Value} {ab:Bool} {col:Option Bool} {dd:Option Addr} {k0 k1 k2 k3 k5:Option Value} {B newId initId:String}
abbrev tupO (rest:List Value):Obj:={ cls:=.type "tuple",data:=.seq rest.toArray }
abbrev excO (C t:Addr):Obj:={ cls:=.ref C,data:=.fields #[.ref t,.none,.none,.none,.bool false,.none] }
abbrev made (h:Heap) (C:Addr) (rest:List Value):Heap:=(h.push (tupO rest)).push (excO C h.objs.size)
end
section
variable {prog:Program} {w:World} {A:Around} {E:Value->Shared->Prop} {h:Heap} {g:Array GenState} {d:Drawn} {t:Nat} {os:OsState}
variable {nm q:Str} {C N:Addr} {bs bm bmB:List Value} {hdct:Bool} {sn:List Str} {sub:List Value} {ab:Bool} {col:Option Bool} {dd:Option Addr} {k0 k1 k2 k3 k5:Option Value} {B newId initId:String}
end
end EX
namespace EX
open PySem Builtin Builtin.ObjectAttr
structure SetOk (M:Model) (h:Heap) (x C:Addr) (name:Str):Prop where
 sa:Lk M h (typeLookup (.ref C) "__setattr__") (some (.builtin "object.__setattr__"))
 no:Lk M h (typeLookup (.ref C) name) none
 rf:Lk M h (refuseIfOverridden (.ref x) "__setattr__") ()
 ob:Lk M h (isSubtype (.ref C) (.type "object")) true
 cd:∃ cd,Lk M h (classData C) cd/\cd.hasDict=true
structure SaFacts:Prop where
 slot:Slot "object" "__setattr__" "object.__setattr__"
 entry:entryFor table "object.__setattr__" = some Builtin.«object.__setattr__»
 kind:builtinKind "object.__setattr__" = some .slot
 split:splitId "object.__setattr__" = some ("object","__setattr__")
 args:∀ a b c:Value,argsOk "object.__setattr__" ⟨[a,b,c],[]⟩
section
variable {prog:Program} {w:World} {A:Around} {E:Value->Shared->Prop} {s:Shared} {x C:Addr} {o:Obj} {name:Str} {v:Value}
end
structure GetOk (M:Model) (h:Heap) (C:Addr) (name:Str):Prop where
 ga:Lk M h (typeLookup (.ref C) "__getattribute__") (some (.builtin "BaseException.__getattribute__"))
 hk:Lk M h (typeLookup (.ref C) "__getattr__") none
 no:Lk M h (typeLookup (.ref C) name) none
 ob:Lk M h (isSubtype (.ref C) (.type "BaseException")) true
 cd:∃ cd,Lk M h (classData C) cd/\cd.hasDict=true
section
variable {prog:Program} {w:World} {A:Around} {E:Value->Shared->Prop} {s:Shared} {x C dx:Addr} {o:Obj} {name:Str} {v:Value} {mA:Str->Option Value} {vs:Array Value}
end
end EX
namespace EX
open PySem
section
variable {prog:Program} {w:World} {A:Around} {E:Value->Shared->Prop} {h:Heap} {g:Array GenState} {d:Drawn} {t:Nat} {os:OsState}
variable {nm q:Str} {C N:Addr} {bs bm bmB:List Value} {hdct:Bool} {sn:List Str} {sub:List Value} {ab:Bool} {col:Option Bool} {dd:Option Addr} {k0 k1 k2 k3 k5:Option Value} {B newId initId:String}
end
end EX
namespace EX
open PySem PySem.W Builtin Builtin.ObjectAttr
section
variable {prog:Program} {w:World} {A:Around} {E:Value->Shared->Prop} {s:Shared} {x C:Addr} {o:Obj} {od:Option Obj} {K:Frag}
end
end EX
namespace L2
open PySem PySem.Spec PyProof.Rows
def XO (a C:Addr) (od:Option Addr) (new:Bool) (h:Heap):Prop:=∃ vs sl,h.get? a=some ⟨.ref C,od,.fields vs,sl⟩/\1<vs.size/\(new=true->vs[1]?=some .none)
abbrev XHO (a C:Addr) (od:Option Addr) (new:Bool):HO:=.ext (XO a C od new)
def DO (a:Addr) (fs:List (Str × V)) (h:Heap):Prop:=fs.length<=100/\∃ mA,h.Ns1 a mA/\(∀ f,RelO (fs.lookup f) (mA f))/\PySem.Within mA (fs.map (·.1))
abbrev DHO (a:Addr) (fs:List (Str × V)):HO:=.ext (DO a fs)
section
variable {P:Program} {w:World} {H:Hp} {h:Heap} {a C:Addr} {od:Option Addr} {new:Bool} {fs:List (Str × V)}
theorem XO.ok (x:XO a C od new h):Yu P w H h a (XHO a C od new):=by
 obtain ⟨vs,sl,e,z⟩:=x
 exact ⟨⟨vs,sl,e,z⟩,⟨_,e⟩,fun h1 h2 ⟨vs,sl,e,z⟩ k=>⟨vs,sl,k _ e,z⟩⟩
theorem DO.ok (x:DO a fs h):Yu P w H h a (DHO a fs):=by
 obtain ⟨z,mA,⟨o,es,ep,e,r⟩,q⟩:=x
 exact ⟨⟨z,mA,⟨o,es,ep,e,r⟩,q⟩,⟨o,e⟩,fun h1 h2 ⟨z,mA,⟨o,es,ep,e,r⟩,q⟩ k=>⟨z,mA,⟨o,es,ep,k _ e,r⟩,q⟩⟩
end
def veMro:List Value:=[.type "ValueError",.type "Exception",.type "BaseException",.type "object"]
def onlyVE:List Value->Bool
 | .ref _::r=>onlyVE r
 | l=>l == veMro
structure XCls (K:W.Frag) (C:Addr):Prop where
 sa:W.findIn K (.ref C) "__setattr__" = some (some (.builtin "object.__setattr__"))
 ga:W.findIn K (.ref C) "__getattribute__" = some (some (.builtin "BaseException.__getattribute__"))
 hk:W.findIn K (.ref C) "__getattr__" = some none
 ca:W.findIn K (.ref C) "__class__" = some (some (.builtin "object.__class__"))
 be:W.mroIn K C (.type "BaseException")=some true
 ob:W.mroIn K C (.type "object")=some true
 hd:W.hasDictIn K C=true
 ty:W.typeIn K (.ref C)=some (.type "type")
 rf:((W.clsIn K C).any fun cd=>onlyVE cd.mro)=true
 gs:W.specialIn K (.builtin "object.__class__") "__get__" = some (some (.builtin "getset_descriptor.__get__"))
 tk:W.takesIn K (.builtin "object.__class__")=some true
section
variable {K:W.Frag} {C x:Addr} {M:Model} {h:Heap} {f:Str} {o:Obj}
end
section
variable {X:Cx} {pins:List (Addr × Obj)} {σ:St} {H:Hp} {s:Shared} {h':Heap} {t':Nat}
end
section
variable {X:Cx} {o e value:Expr} {f:Str} {pos pos':Pos} {ta tv:TE}
end
def xIn (K:W.Frag) (C:Addr):Bool :=
 match K.lookup C with
 | some ⟨.type "type",_,.cls cd,⟨[_,_,_,_,some (.builtin n),_]⟩⟩=>match cd.mro with
  | .ref C'::bm=>C' == C && n == "ValueError.__new__" && !cd.hasDel && W.tailIn K veMro bm
  | _=>false
 | _=>false
structure XMk (K:W.Frag) (C f:Addr):Prop where
 made:xIn K C=true
 init:W.findIn K (.ref C) "__init__" = some (some (.ref f))
 fn:W.isFn K (.ref f)=true
 kp:W.keepIn K (.ref C)=true
structure XMk0 (K:W.Frag) (C:Addr):Prop where
 made:xIn K C=true
 init:W.findIn K (.ref C) "__init__" = some (some (.builtin "ValueError.__init__"))
 kp:W.keepIn K (.ref C)=true
section
variable {X:Cx} {CX:CXT} {k:Nat} {f C:Addr} {fd:FuncData} {ps:List Str} {sp:Sp} {E:XK} {x m:Str} {p pos:Pos} {e:Expr} {es:List Expr} {t:TA}
end
def Cx.tr (X:Cx) (pn:List (Addr × Obj)) (W:St->Hp->Addr->Addr->Option Addr->Prop):Cx:={ X with pn:=pn,xe:=fun v s'=>∃ e σ' H' C od,v=.ref e/\Zs { X with pn:=pn } [] σ' H' s'/\H' e=some (XHO e C od true)/\W σ' H' e C od }
def Cx.ec (X:Cx) (e:Addr):Cx:={ X with A:=X.A.mark (some (.ref e)),calm:=false,xe:=fun _ _=>False }
section
variable {X:Cx} {pins pn:List (Addr × Obj)} {σ:St} {H:Hp} {s:Shared} {e:Addr} {W:St->Hp->Addr->Addr->Option Addr->Prop}
end
section
variable {X:Cx} {pins:List (Addr × Obj)} {σ:St} {H:Hp} {s:Shared}
end
section
variable {X:Cx} {W:St->Hp->Addr->Addr->Option Addr->Prop}
end
section
variable {X:Cx}
end
section
variable {X:Cx}
end
end L2
namespace EX
open PySem
def QV (h:Heap) (vs:Array Value):Prop:=vs[1]?=some .none\/∃ T oT ts,vs[1]?=some (.ref T)/\h.get? T=some oT/\oT.data=.fields ts/\ts[3]?=some .none
section
variable {M:Model} {A:Around} {E:Value->Shared->Prop} {s:Shared} {env:Env} {outer:List Env} {base:Heap} {L e T:Addr} {oe:Obj} {vs:Array Value} {Q:Unit->Shared->Prop}
end
end EX
namespace L2
open PySem PySem.Spec PyProof.Rows
def QX (h:Heap) (a:Addr):Prop:=∃ oe vs,h.get? a=some oe/\oe.data=.fields vs/\EX.QV h vs
abbrev XWT:=St->Hp->Addr->Addr->Option Addr->Prop
def CX1 (P:Program) (w:World):CXT:=fun outer H s E v s'=>∃ a H' C od,v=.ref a/\s'.os=s.os/\AllBare s'.gens/\Un (frs outer) [] H H' s.heap s'.heap/\HOk P w H' s'.heap/\H' a=some (XHO a C od false)/\QX s'.heap a/\E (.ref C) od H'
section
variable {X:Cx} {pins:List (Addr × Obj)} {σ:St} {H:Hp} {s s':Shared}
end
section
variable {P:Program} {w:World} {K:W.Frag} {mg:Str->Option Value} {base:Heap}
end
def FnX (P:Program) (w:World) (K:W.Frag) (mg:Str->Option Value) (base:Heap) (k:Nat) (x:Str) (ps:List Str) (sp:Sp):Prop :=
 ∃ f fd,Y4 P w K mg base (CX1 P w) k f fd ps sp/\Binds K fd ps []/\W.keepIn K (.ref f)=true/\mg x=some (.ref f)
section
variable {X:Cx} {W:XWT} {k:Nat} {x:Str} {ps:List Str} {sp:Sp} {p pos:Pos} {e:Expr} {es:List Expr} {t:TA} {te:TE}
end
def Cx.tx (X:Cx) (pn:List (Addr × Obj)) (W:XWT):Cx:={ X with pn:=pn,xe:=fun v s'=>∃ e σ' H' C od new,v=.ref e/\Zs { X with pn:=pn } [] σ' H' s'/\H' e=some (XHO e C od new)/\QX s'.heap e/\W σ' (Z3 H' e (XHO e C od false)) e C od }
section
variable {X:Cx} {pins pn:List (Addr × Obj)} {σ:St} {H:Hp} {s:Shared} {e:Addr} {W:XWT}
end
section
variable {X:Cx}
end
section
variable {X:Cx}
end
section
variable {X:Cx} {pins:List (Addr × Obj)} {σ:St} {H:Hp} {s:Shared}
end
section
variable {X:Cx} {W:XWT} {k:Nat} {f C:Addr} {fd:FuncData} {m:Str} {ps:List Str} {sp:Sp} {o e:Expr} {es:List Expr} {ta:TE} {t:TA} {p pos apos:Pos}
end
section
variable {X:Cx}
end
structure XOk (K:W.Frag) (C:Addr) (as:List Addr) (x:Str):Prop where
 xc:XCls K C
 mro:∀ b,W.mroIn K C b=some ((as.map Value.ref++veMro).contains b)
 here:(W.clsIn K C).isSome=true
 no:NoAttr K C x
 made:xIn K C=true
 kp:W.keepIn K (.ref C)=true
theorem XOk.up {K:W.Frag} {C M:Addr} {y:Str} (x:XOk K C [C,M] y):W.mroIn K C (.ref M)=some true:=by
 rw [x.mro]
 congr 1
 rw [List.contains_iff_mem]
 simp
theorem Y4.noX {P:Program} {w:World} {K:W.Frag} {mg:Str->Option Value} {base:Heap} {k:Nat} {f:Addr} {fd:FuncData} {ps:List Str} {sp:Sp} (F:Y4 P w K mg base (CX1 P w) k f fd ps sp) :
  Y4 P w K mg base CX0 k f fd ps (fun vs H Q _=>sp vs H Q E0) :=
 ⟨fun vs H Q E h=>F.len vs H Q E0 h,fun A outer s H args us vs Q E hr he hb hv h=>codeAny_mono (F.run A outer s H args us vs Q E0 hr he hb hv h) fun r s' q=>by
  cases r with
  | ok v=>cases v <;> exact q
  | error v =>
   obtain ⟨a,H',C,od,_,_,_,_,_,_,_,z⟩:=q
   exact z.elim⟩
theorem FnX.fn {P:Program} {w:World} {K:W.Frag} {mg:Str->Option Value} {base:Heap} {k:Nat} {x:Str} {ps:List Str} {sp:Sp} (G:FnX P w K mg base k x ps sp):Fn P w K mg base k x ps (fun vs H Q _=>sp vs H Q E0):=by
 obtain ⟨f,fd,F,r⟩:=G
 exact ⟨f,fd,F.noX,r⟩
def rSlSg:V->Option Int->Option Int->Hp->VK->Prop:=fun x _ hi H Q=>∃ z:Str,x=.str z/\z.length<=sizeLine/\∀ z':Str,z'.length<=z.length->(∀ k:Nat,hi=some (k:Int)->z'.length<=k)->(∀ c∈z'.cps.toList,c∈z.cps.toList)->Q (.str z') H
theorem pick_mem (x:Str) (is:List Nat):∀ c∈(Str.mk (is.filterMap (x.cps[·]?)).toArray).cps.toList,c∈x.cps.toList:=fun c m=>by
 have m:c∈is.filterMap (x.cps[·]?):=by simpa using m
 obtain ⟨i,_,e⟩:=List.mem_filterMap.mp m
 have:=Array.mem_of_getElem? e
 exact Array.mem_toList_iff.mpr this
theorem ix_hi (l:Option Int) (k n:Nat):(Builtin.Str.strSliceIndices l (some (k:Int)) 1 n).length<=k:=by
 unfold Builtin.Str.strSliceIndices sliceRange
 cases l <;> simp only [show (1:Int)>0 by decide,if_true,List.length_map,List.length_range] <;> (split <;> (try split) <;> (try split) <;> (try simp only [Int.ediv_one]) <;> omega)
theorem slice_hi (x:Str) (l:Option Int) (k:Nat):(Txt.slice x l (some (k:Int))).length<=k:=by
 have h:=ix_hi l k x.length
 unfold Txt.slice
 split
 ·rename_i c
  simp only [Bool.and_eq_true,beq_iff_eq] at c
  omega
 ·show (List.filterMap _ (Builtin.Str.strSliceIndices l (some (k:Int)) 1 x.length)).toArray.size<=k
  rw [List.size_toArray]
  exact Nat.le_trans (List.length_filterMap_le _ _) h
theorem slice_mem (x:Str) (l u:Option Int):∀ c∈(Txt.slice x l u).cps.toList,c∈x.cps.toList:=by
 unfold Txt.slice
 split
 ·exact fun _ m=>m
 ·exact pick_mem x _
section
variable {X:Cx} {e:Expr} {te t1 t2:TE} {p2 p3 p4 pos:Pos} {j1:Nat}
theorem sl_strG:SlR X rSlSg:=by
 intro pins s σ H x v vl vu lo hi sl Q I rx hs pl pu h
 obtain ⟨z,rfl,hz,q⟩:=h
 obtain ⟨t,rfl⟩:=rx
 have q':∀ (l u:Option Int) (t':Tok) (k:Nat),u=hi->EP X pins σ Q (.str (Txt.slice z l u) t') { s with toks:=k }:=fun l u t' k e=>⟨.str _,H,I.tok _,⟨t',rfl⟩,q _ (Txt.slice_le z l u) (fun k ek=>by rw [e,ek]; exact slice_hi z l k) (slice_mem z l u)⟩
 refine ⟨"str",_,PySem.F.slot_str_getitem.lookup,typeIs_str _ _ _, ?_⟩
 cases pl with
 | none=>cases pu with
  | none=>exact wpAny_getItem_str_slice (l:=none) (u:=none) (st:=none) hs rfl (post_val_or_str ⟨Nat.le_trans (Txt.slice_le z _ _) hz,fun t' k=>q' none none t' k rfl⟩)
  | int j uj=>exact wpAny_getItem_str_slice (l:=none) (u:=some (j,uj)) (st:=none) hs rfl (post_val_or_str ⟨Nat.le_trans (Txt.slice_le z _ _) hz,fun t' k=>q' none (some j) t' k rfl⟩)
 | int i ui=>cases pu with
  | none=>exact wpAny_getItem_str_slice (l:=some (i,ui)) (u:=none) (st:=none) hs rfl (post_val_or_str ⟨Nat.le_trans (Txt.slice_le z _ _) hz,fun t' k=>q' (some i) none t' k rfl⟩)
  | int j uj=>exact wpAny_getItem_str_slice (l:=some (i,ui)) (u:=some (j,uj)) (st:=none) hs rfl (post_val_or_str ⟨Nat.le_trans (Txt.slice_le z _ _) hz,fun t' k=>q' (some i) (some j) t' k rfl⟩)
def isInts:List Expr->List Int->Bool
 | [],[]=>true
 | .Constant (.int k) _ _::es,n::ns=>k == n && isInts es ns
 | _,_=>false
def tInts:List Int->TA
 | []=>tNil
 | n::ns=>tCons (tC (.int n)) (tInts ns)
theorem pa_ints {es:List Expr} (ns:List Int) (h:isInts es ns=true):PA X es (tInts ns):=by
 induction es generalizing ns with
 | nil=>cases ns with
  | nil=>exact Zx
  | cons n ns=>simp [isInts] at h
 | cons e es ih =>
  cases ns with
  | nil=>simp [isInts] at h
  | cons n ns =>
   cases e with
   | Constant c j p =>
    cases c with
    | int k =>
     have h':(k == n)=true/\isInts es ns=true:=by simpa [isInts,Bool.and_eq_true] using h
     obtain rfl:=beq_iff_eq.mp h'.1
     exact pa_cons Zq (ih ns h'.2) rfl
    | _=>simp [isInts] at h
   | _=>simp [isInts] at h
end
section
variable {κ:Type} [DecidableEq κ]
def valV (kvs:List (κ × V)) (k:κ):Option V:=(kvs.find? fun kv=>decide (kv.1=k)).map (·.2)
def putK (kvs:List (κ × V)) (k:κ) (v:V):List (κ × V) :=
 if (kvs.any fun kv=>decide (kv.1=k))=true then kvs.map (fun kv=>if kv.1=k then (kv.1,v) else kv) else kvs++[(k,v)]
def dropK (kvs:List (κ × V)) (k:κ):List (κ × V):=kvs.filter fun kv=>decide (kv.1≠k)
theorem valV_pos {p:κ × V} {r:List (κ × V)} {k:κ} (e:p.1=k):valV (p::r) k=some p.2:=by simp [valV,List.find?_cons,e]
theorem valV_neg {p:κ × V} {r:List (κ × V)} {k:κ} (e:¬ p.1=k):valV (p::r) k=valV r k:=by simp [valV,List.find?_cons,e]
theorem valV_any (k:κ):∀ kvs:List (κ × V),(kvs.any fun kv=>decide (kv.1=k))=(valV kvs k).isSome
 | []=>rfl
 | p::r=>by
  rw [List.any_cons]
  by_cases e:p.1=k
  ·simp only [valV_pos e,decide_eq_true e,Bool.true_or,Option.isSome_some]
  ·rw [valV_neg e,decide_eq_false e,Bool.false_or]; exact valV_any k r
theorem length_putK (kvs:List (κ × V)) (k:κ) (v:V):(putK kvs k v).length<=kvs.length+1:=by
 unfold putK
 split
 ·rw [List.length_map]; omega
 ·rw [List.length_append,List.length_cons,List.length_nil]; omega
theorem putK_new {kvs:List (κ × V)} {k:κ} (v:V) (h:valV kvs k=none):putK kvs k v=kvs++[(k,v)]:=by
 unfold putK
 rw [valV_any,h]
 exact if_neg (by decide)
theorem RelO.isSome_eq {o:Option V} {u:Option Value} (r:RelO o u):o.isSome=u.isSome:=by
 cases o with
 | none=>cases u with
  | none=>rfl
  | some _=>exact (show False from r).elim
 | some _=>cases u with
  | none=>exact (show False from r).elim
  | some _=>rfl
theorem RelO.getD {o:Option V} {u:Option Value} {d:V} {d':Value} (r:RelO o u) (rd:Z2 d d'):Z2 (o.getD d) (u.getD d'):=by
 cases o with
 | none=>cases u with
  | none=>exact rd
  | some _=>exact (show False from r).elim
 | some _=>cases u with
  | none=>exact (show False from r).elim
  | some _=>exact r
theorem KV.val {kvs:List (κ × V)} {vs:List (κ × Value)} (r:KV kvs vs) (k:κ):RelO (valV kvs k) (valueAt vs k):=by
 unfold KV at r
 induction r with
 | nil=>exact True.intro
 | @cons p q ps qs h t ih =>
  obtain ⟨h1,h2⟩:=h
  by_cases e:p.1=k
  ·have e':q.1=k:=h1.symm.trans e
   have b:valueAt (q::qs) k=some q.2:=by simp [valueAt,List.find?_cons,e']
   rw [valV_pos e,b]; exact h2
  ·have e':¬ q.1=k:=fun z=>e (h1.trans z)
   have b:valueAt (q::qs) k=valueAt qs k:=by simp [valueAt,List.find?_cons,e']
   rw [valV_neg e,b]; exact ih
theorem KV.any {kvs:List (κ × V)} {vs:List (κ × Value)} (r:KV kvs vs) (k:κ):(kvs.any fun kv=>decide (kv.1=k))=vs.any fun kv=>decide (kv.1=k):=by
 unfold KV at r
 induction r with
 | nil=>rfl
 | cons h t ih=>rw [List.any_cons,List.any_cons,ih,h.1]
theorem KV.repl {kvs:List (κ × V)} {vs:List (κ × Value)} (r:KV kvs vs) (k:κ) {y:V} {u:Value} (ry:Z2 y u) :
  KV (kvs.map fun kv=>if kv.1=k then (kv.1,y) else kv) (vs.map fun kv=>if kv.1=k then (kv.1,u) else kv):=by
 unfold KV at r ⊢
 induction r with
 | nil=>exact .nil
 | @cons p q ps qs h t ih =>
  rw [List.map_cons,List.map_cons]
  refine .cons ?_ ih
  obtain ⟨h1,h2⟩:=h
  by_cases e:p.1=k
  ·rw [if_pos e,if_pos (h1.symm.trans e)]; exact ⟨h1,ry⟩
  ·rw [if_neg e,if_neg (fun z=>e (h1.trans z))]; exact ⟨h1,h2⟩
theorem KV.put {kvs:List (κ × V)} {vs:List (κ × Value)} (r:KV kvs vs) (k:κ) {y:V} {u:Value} (ry:Z2 y u):KV (putK kvs k y) (stored vs k u):=by
 unfold putK stored
 rw [r.any k]
 by_cases e:(vs.any fun kv=>decide (kv.1=k))=true
 ·rw [if_pos e,if_pos e]; exact r.repl k ry
 ·rw [if_neg e,if_neg e]; exact Paired.snoc r ⟨rfl,ry⟩
theorem KV.drop {kvs:List (κ × V)} {vs:List (κ × Value)} (r:KV kvs vs) (k:κ):KV (dropK kvs k) (without vs k):=by
 unfold KV at r ⊢
 unfold dropK without
 induction r with
 | nil=>exact .nil
 | @cons p q ps qs h t ih =>
  obtain ⟨h1,h2⟩:=h
  rw [List.filter_cons,List.filter_cons]
  by_cases e:p.1=k
  ·have a:¬ decide (p.1≠k)=true:=by simp [e]
   have b:¬ decide (q.1≠k)=true:=by simp [h1.symm.trans e]
   rw [if_neg a,if_neg b]; exact ih
  ·have e':¬ q.1=k:=fun z=>e (h1.trans z)
   have a:decide (p.1≠k)=true:=by simp [e]
   have b:decide (q.1≠k)=true:=by simp [e']
   rw [if_pos a,if_pos b]; exact .cons ⟨h1,h2⟩ ih
theorem KV.keys {kvs:List (κ × V)} {vs:List (κ × Value)} (r:KV kvs vs):kvs.map (·.1)=vs.map (·.1):=by
 unfold KV at r
 induction r with
 | nil=>rfl
 | cons h t ih=>rw [List.map_cons,List.map_cons,ih,h.1]
theorem KV.length {kvs:List (κ × V)} {vs:List (κ × Value)} (r:KV kvs vs):kvs.length=vs.length:=Paired.length r
end
theorem kV_is {P:Program} {w:World} {k:Yt} {u:Value} (r:Z2 (kV k) u):(Z8 P w).is k u=true:=by
 cases k with
 | inl i=>obtain ⟨t,e⟩:=(show ∃ t,u=Value.int i t from r); subst e; exact mixKind_int P w i t
 | inr x=>obtain ⟨t,e⟩:=(show ∃ t,u=Value.str x t from r); subst e; exact mixKind_str P w x t
theorem items_are {P:Program} {w:World}:∀ {ks:List Yt} {us:List Value},Z9 (ks.map kV) us->ItemsAre (Z8 P w) ks us
 | [],_,r=>by rw [List.map_nil] at r; cases r; exact .nil
 | k::ks,_,r=>by
  rw [List.map_cons] at r
  cases r with
  | cons h t=>exact .cons (kV_is h) (items_are t)
abbrev KT (H:Hp):List (List Yt × V)->List (List Yt × Addr × Value)->Prop:=Paired fun p q=>p.1=q.1/\H q.2.1=some (.tup (p.1.map kV))/\Z2 p.2 q.2.2
theorem KT.val {H:Hp} {kvs:List (List Yt × V)} {xs:List (List Yt × Addr × Value)} (r:KT H kvs xs) (k:List Yt):RelO (valV kvs k) ((atKey xs k).map (·.2)):=by
 induction r with
 | nil=>exact True.intro
 | @cons p q ps qs h t ih =>
  obtain ⟨h1,_,h2⟩:=h
  by_cases e:p.1=k
  ·have e':q.1=k:=h1.symm.trans e
   have b:atKey (q::qs) k=some q.2:=by simp [atKey,List.find?_cons,e']
   rw [valV_pos e,b]; exact h2
  ·have e':¬ q.1=k:=fun z=>e (h1.trans z)
   have b:atKey (q::qs) k=atKey qs k:=by simp [atKey,List.find?_cons,e']
   rw [valV_neg e,b]; exact ih
theorem KT.repl {H:Hp} {kvs:List (List Yt × V)} {xs:List (List Yt × Addr × Value)} (r:KT H kvs xs) (k:List Yt) {y:V} {u:Value} (ry:Z2 y u) :
  KT H (kvs.map fun kv=>if kv.1=k then (kv.1,y) else kv) (xs.map (putAt k u)):=by
 induction r with
 | nil=>exact .nil
 | @cons p q ps qs h t ih =>
  rw [List.map_cons,List.map_cons]
  refine .cons ?_ ih
  obtain ⟨h1,h2,h3⟩:=h
  unfold putAt
  by_cases e:p.1=k
  ·rw [if_pos e,if_pos (h1.symm.trans e)]; exact ⟨h1,h2,ry⟩
  ·rw [if_neg e,if_neg (fun z=>e (h1.trans z))]; exact ⟨h1,h2,h3⟩
theorem KT.put {H:Hp} {kvs:List (List Yt × V)} {xs:List (List Yt × Addr × Value)} (r:KT H kvs xs) (k:List Yt) {b:Addr} {y:V} {u:Value} (hb:H b=some (.tup (k.map kV))) (ry:Z2 y u) :
  KT H (putK kvs k y) (storedH xs k b u):=by
 have e:(kvs.any fun kv=>decide (kv.1=k))=(atKey xs k).isSome:=by
  rw [valV_any,(r.val k).isSome_eq,Option.isSome_map]
 unfold putK storedH
 rw [e]
 by_cases q:(atKey xs k).isSome=true
 ·rw [if_pos q,if_pos q]; exact r.repl k ry
 ·rw [if_neg q,if_neg q]; exact Paired.snoc r ⟨rfl,hb,ry⟩
theorem KT.keeps {H H':Hp} {kvs:List (List Yt × V)} {xs:List (List Yt × Addr × Value)} (r:KT H kvs xs) (ht:∀ b ys,H b=some (.tup ys)->H' b=some (.tup ys)):KT H' kvs xs :=
 Paired.mapP r fun _ _ z=>⟨z.1,ht _ _ z.2.1,z.2.2⟩
section
variable {P:Program} {w:World} {H:Hp} {h:Heap} {a:Addr}
theorem rd_of {u:HO} (ok:HOk P w H h) (e:Rd H a u):Yu P w H h a u:=e.ok ok
theorem dk_rd {kvs:List (Yt × V)} (ok:HOk P w H h) (e:Rd H a (.dK kvs)):kvs.length<=sizeLine/\(a == sysModules)=false/\∃ vs,KV kvs vs/\h.DictOf (Z8 P w) a vs :=
 show Yu P w H h a (.dK kvs) from rd_of ok e
theorem dk_of {kvs:List (Yt × V)} (ok:HOk P w H h) (e:H a=some (.dK kvs)):kvs.length<=sizeLine/\(a == sysModules)=false/\∃ vs,KV kvs vs/\h.DictOf (Z8 P w) a vs:=dk_rd ok (.inl e)
theorem key_of {ks:List Yt} (ok:HOk P w H h) (e:H a=some (.tup (ks.map kV))):(tupleKind (Z8 P w)).is h ks a:=by
 obtain ⟨_,its,r,o,h1,h2,⟨n,h3⟩,_⟩:=(show Yu P w H h a (.tup (ks.map kV)) from ok a _ e)
 exact ⟨o,its.toArray,n,h1,h2,h3,by simpa using items_are r⟩
theorem dt_rd {kvs:List (List Yt × V)} (ok:HOk P w H h) (e:Rd H a (.dT kvs)):kvs.length<=sizeLine/\(a == sysModules)=false /\
  ∃ xs,KT H kvs xs/\h.DictOfH (tupleKind (Z8 P w)) a xs:=by
 obtain ⟨z,y,xs,r,o,es,ep,h1,h2,h3,h4,h5⟩:=(show Yu P w H h a (.dT kvs) from rd_of ok e)
 refine ⟨z,y,xs,r,o,es,ep,h1,h2,h3,h4,fun x hx=>?_,h5⟩
 have all:∀ {l:List (List Yt × V)} {m:List (List Yt × Addr × Value)},KT H l m->∀ x∈m,(tupleKind (Z8 P w)).is h x.1 x.2.1:=by
  intro l m q
  induction q with
  | nil=>intro x hx; exact nomatch hx
  | @cons p q ps qs hq t ih =>
   intro x hx
   rcases List.mem_cons.mp hx with e | hx
   ·subst e
    exact key_of ok (by rw [<-hq.1]; exact hq.2.1)
   ·exact ih x hx
 exact all r x hx
theorem dt_of {kvs:List (List Yt × V)} (ok:HOk P w H h) (e:H a=some (.dT kvs)):kvs.length<=sizeLine/\(a == sysModules)=false /\
  ∃ xs,KT H kvs xs/\h.DictOfH (tupleKind (Z8 P w)) a xs:=dt_rd ok (.inl e)
end
def DGet (H:Hp) (a:Addr) (y:V) (r:Option V):Prop :=
 (∃ kvs k,Rd H a (.dK kvs)/\y=kV k/\r=valV kvs k)\/∃ kvs k b,Rd H a (.dT kvs)/\y=.ref b/\H b=some (.tup (k.map kV))/\r=valV kvs k
def DPut (H:Hp) (a:Addr) (y v:V) (H':Hp):Prop :=
 (∃ kvs k,H a=some (.dK kvs)/\y=kV k/\kvs.length<sizeLine/\H'=Z3 H a (.dK (putK kvs k v))) \/
 ∃ kvs k b,H a=some (.dT kvs)/\y=.ref b/\H b=some (.tup (k.map kV))/\kvs.length<sizeLine/\H'=Z3 H a (.dT (putK kvs k v))
theorem DGet.k {H:Hp} {a:Addr} {kvs:List (Yt × V)} {k:Yt} (e:H a=some (.dK kvs)):DGet H a (kV k) (valV kvs k):=.inl ⟨kvs,k,.inl e,rfl,rfl⟩
theorem DGet.t {H:Hp} {a b:Addr} {kvs:List (List Yt × V)} {k:List Yt} (e:H a=some (.dT kvs)) (eb:H b=some (.tup (k.map kV))):DGet H a (.ref b) (valV kvs k):=.inr ⟨kvs,k,b,.inl e,rfl,eb,rfl⟩
theorem DPut.k {H:Hp} {a:Addr} {kvs:List (Yt × V)} {k:Yt} {v:V} (e:H a=some (.dK kvs)) (hl:kvs.length<sizeLine):DPut H a (kV k) v (Z3 H a (.dK (putK kvs k v))):=.inl ⟨kvs,k,e,rfl,hl,rfl⟩
theorem DPut.t {H:Hp} {a b:Addr} {kvs:List (List Yt × V)} {k:List Yt} {v:V} (e:H a=some (.dT kvs)) (eb:H b=some (.tup (k.map kV))) (hl:kvs.length<sizeLine) :
  DPut H a (.ref b) v (Z3 H a (.dT (putK kvs k v))):=.inr ⟨kvs,k,b,e,rfl,eb,hl,rfl⟩
section
variable {X:Cx} {pins:List (Addr × Obj)} {σ:St} {H:Hp} {s:Shared} {a:Addr} {y v:V} {u r:Value} {o:Option V} {A:Around} {E:Value->Shared->Prop}
theorem Zs.big (I:Zs X pins σ H s):sysModules<s.heap.objs.size:=by
 have h:mainGlobals<s.heap.objs.size:=(I.mod.glob.keeps I.bk).lt
 exact Nat.lt_trans (by decide) h
theorem d_getItem {Q:Value->Shared->Prop} (hu:A.units+1<cLine) (I:Zs X pins σ H s) (g:DGet H a y (some v)) (ry:Z2 y u) (h:∀ w' s',Zs X pins σ H s'->Z2 v w'->Q w' s') :
  wpAny (model X.prog X.w) A (getItem (.ref a) u) Q E s:=by
 rcases g with ⟨kvs,k,e,ey,l⟩ | ⟨kvs,k,b,e,ey,eb,l⟩
 ·subst ey
  obtain ⟨z,hd,vs,rel,dd⟩:=dk_rd I.hok e
  obtain ⟨w',hw,rw'⟩:=RelO.some_of (v:=v) (o:=valueAt vs k) (by rw [l]; exact rel.val k)
  exact wpAny_getItem_of (kV_is ry) dd.mapOf hw (h w' _ (I.tok _) rw')
 ·subst ey
  cases (show u=Value.ref b from ry)
  obtain ⟨z,hd,xs,rel,dd⟩:=dt_rd I.hok e
  obtain ⟨w',hw,rw'⟩:=RelO.some_of (v:=v) (o:=(atKey xs k).map (·.2)) (by rw [l]; exact rel.val k)
  obtain ⟨p,hp,hp2⟩:=Option.map_eq_some_iff.mp hw
  refine wpAny_getItem_heap (tupleKind_room_in1 hu) (key_of I.hok eb) dd hp ?_
  rw [hp2]
  exact h w' _ (I.tok _) rw'
theorem d_notIn {Q:Value->Shared->Prop} (hu:A.units+1<cLine) (I:Zs X pins σ H s) (g:DGet H a y o) (ry:Z2 y u) (h:∀ s',Zs X pins σ H s'->Q (.bool (!o.isSome)) s') :
  wpAny (model X.prog X.w) A (compareOp .NotIn u (.ref a)) Q E s:=by
 rcases g with ⟨kvs,k,e,ey,l⟩ | ⟨kvs,k,b,e,ey,eb,l⟩
 ·subst ey
  obtain ⟨z,hd,vs,rel,dd⟩:=dk_rd I.hok e
  refine wpAny_notIn_of (kV_is ry) hd dd.mapOf ?_
  rw [<-(rel.val k).isSome_eq, <-l]
  exact h _ (I.tok _)
 ·subst ey
  cases (show u=Value.ref b from ry)
  obtain ⟨z,hd,xs,rel,dd⟩:=dt_rd I.hok e
  refine wpAny_notIn_heap (tupleKind_room_in1 hu) (key_of I.hok eb) hd dd ?_
  have q:=(rel.val k).isSome_eq
  rw [Option.isSome_map] at q
  rw [<-q, <-l]
  exact h _ (I.tok _)
theorem d_write {h':Heap} {t':Nat} {ob:HO} (I:Zs X pins σ H s) (mu:Mut (H a)) (hs:Heap.SameBut a s.heap h') (he:∃ q,h'.get? a=some q) (new:Yu X.prog X.w (Z3 H a ob) h' a ob) :
  Zs X pins σ (Z3 H a ob) { s with heap:=h',toks:=t' } :=
 I.write (x:=a) (e:=a) mu (.inl rfl) (fun b q hb z=>(hs.2 b hb).trans z) he new
theorem dk_new {P:Program} {w:World} {H':Hp} {h':Heap} {kvs:List (Yt × V)} {vs:List (Yt × Value)} (z:kvs.length<=sizeLine) (hd:(a == sysModules)=false) (rel:KV kvs vs) (dd:h'.DictOf (Z8 P w) a vs) :
  Yu P w H' h' a (.dK kvs):=⟨z,hd,vs,rel,dd⟩
theorem d_setItem {H':Hp} {Q:Unit->Shared->Prop} (hu:A.units+1<cLine) (I:Zs X pins σ H s) (g:DPut H a y v H') (ry:Z2 y u) (rv:Z2 v r) (h:∀ s',Zs X pins σ H' s'->Q () s') :
  wpAny (model X.prog X.w) A (setItem (.ref a) u r) Q E s:=by
 rcases g with ⟨kvs,k,e,ey,l,eH⟩ | ⟨kvs,k,b,e,ey,eb,l,eH⟩
 ·subst ey eH
  obtain ⟨z,hd,vs,rel,dd⟩:=dk_of I.hok e
  have hz:vs.length<=sizeLine:=by rw [<-rel.length]; exact z
  have hl:(putK kvs k v).length<=sizeLine:=by have:=length_putK kvs k v; omega
  refine wpAny_setItem_pairs (hsz:=hz) (kV_is ry) dd fun h' dd' hs=>h _ ?_
  have he:∃ q,h'.get? a=some q:=let ⟨q,_,_,hq,_⟩:=dd'; ⟨q,hq⟩
  exact d_write I (by rw [e]; exact True.intro) hs he (dk_new hl hd (rel.put k rv) dd')
 ·subst ey eH
  cases (show u=Value.ref b from ry)
  obtain ⟨z,hd,xs,rel,dd⟩:=dt_of I.hok e
  have hz:xs.length<=sizeLine:=by rw [<-Paired.length rel]; exact z
  have hl:(putK kvs k v).length<=sizeLine:=by have:=length_putK kvs k v; omega
  refine wpAny_setItem_heap (hsz:=hz) (tupleKind_room_in1 hu) (key_of I.hok eb) dd fun h' dd' hs=>h _ ?_
  obtain ⟨q,es,ep,hq,h2,h3,h4,_,h5⟩:=dd'
  refine d_write I (by rw [e]; exact True.intro) hs ⟨q,hq⟩ ⟨hl,hd,_,(rel.put k eb rv).keeps fun c ys ec=>?_,q,es,ep,hq,h2,h3,h4,h5⟩
  rw [Zk (ne_of ec e (fun z=>nomatch z))]
  exact ec
end
section
variable {X:Cx} {pins:List (Addr × Obj)} {σ:St} {H:Hp} {s:Shared} {a:Addr} {kvs:List (Yt × V)} {k:Yt} {u:Value} {A:Around} {E:Value->Shared->Prop}
end
def NoSl (i:Expr):Prop:=∀ ov iv,subscripted i false ov iv=operate [ov,iv] (getItem ov iv)
theorem subD_of {prog:Program} {w:World} {A:Around} {E:Value->Shared->Prop} {s:Shared} {env:Env} {value slice:Expr} {pos:Pos} {T id:String} {Q:Value->Shared->Prop}
  (hl:typeLookup (.type T) "__getitem__" = pure (some (.builtin id))) (hs:NoSl slice)
  (h:wpAny (model prog w) A (eval value env) (fun o s₁=>wpAny (model prog w) A (eval slice env) (fun i s₂=>s₂.TypeIs o T/\wpAny (model prog w) A (getItem o i) Q E s₂) E s₁) E s) :
  wpAny (model prog w) A (eval (.Subscript value slice pos) env) Q E s:=by
 refine Subscript_ (wpAny_mono h (fun o s₁ h₁=>wpAny_mono h₁ (fun i s₂ h₂=>?_) fun _ _ x=>x) fun _ _ x=>x)
 obtain ⟨hT,h₂⟩:=h₂
 unfold subscriptTail
 refine wpAny_bind ?_
 rw [getitemInPython_of_ne hT.not_modules]
 refine wpAny_bind (wpAny_specialOf hT hl ?_)
 have fin:wpAny (model prog w) A (subscripted slice false o i) (fun r s₃=>wpAny (model prog w) A (letTemporaryGo value o r >>= fun _=>pure r) Q E s₃) E s₂:=by
  rw [hs o i]
  exact wpAny_operating (wpAny_mono h₂ (fun r s₃ h₃=>wpAny_bind (wpAny_letTemporaryGo (wpAny_pure h₃))) fun _ _ x=>x)
 first
  | exact wpAny_pure (wpAny_bind fin)
  | exact wpAny_bind (wpAny_pure (wpAny_bind fin))
  | exact wpAny_bind fin
theorem dict_typeIs {X:Cx} {pins:List (Addr × Obj)} {σ:St} {H:Hp} {s:Shared} {a:Addr} {y:V} {o:Option V} (I:Zs X pins σ H s) (g:DGet H a y o):s.TypeIs (.ref a) "dict" := by
 rcases g with ⟨kvs,k,e,_,_⟩ | ⟨kvs,k,b,e,_,_,_⟩
 ·obtain ⟨_,_,vs,_,dd⟩:=dk_rd I.hok e
  exact dd.typeIs
 ·obtain ⟨_,_,xs,_,dd⟩:=dt_rd I.hok e
  exact dd.typeIs
def tDGet (td ty:TE):TE:=fun σ H Q=>td σ H fun x H1=>ty σ H1 fun y H2=>∃ a v,x=.ref a/\DGet H2 a y (some v)/\Q v H2
def tDNotIn (ty td:TE):TE:=fun σ H Q=>ty σ H fun y H1=>td σ H1 fun x H2=>∃ a o,x=.ref a/\DGet H2 a y o/\Q (.bl (!o.isSome)) H2
def sDPut (td ty tv:TE):TS:=fun D σ H=>tv σ H fun v H1=>td σ H1 fun x H2=>ty σ H2 fun y H3=>∃ a H4,x=.ref a/\DPut H3 a y v H4/\D.nx σ H4
section
variable {X:Cx} {o i e value:Expr} {pos pos' tpos:Pos} {td ty tv:TE}
theorem pe_dget (hu:X.A.units+1<cLine) (ho:PE X o td) (hi:PE X i ty) (hs:NoSl i):PE X (.Subscript o i pos) (tDGet td ty):=by
 intro pins s σ H Q I h
 refine subD_of PySem.F.slot_dict_getitem.lookup hs (Y9 (ho pins s σ H _ I h) fun u s1 ⟨x,H1,I1,rx,q1⟩=>Y9 (hi pins s1 σ H1 _ I1 q1) fun iv s2 ⟨y,H2,I2,ry,a,v,ex,g,q2⟩=>?_)
 subst ex
 obtain rfl:u=Value.ref a:=rx
 exact ⟨dict_typeIs I2 g,d_getItem hu I2 g ry fun w' s3 I3 rw'=>⟨v,H2,I3,rw',q2⟩⟩
theorem pc_dnotin (hu:X.A.units+1<cLine) (hi:PE X i ty) (ho:PE X o td):PC X .NotIn i o (tDNotIn ty td):=by
 intro pins s σ H Q I h
 refine Y9 (hi pins s σ H _ I h) fun iv s1 ⟨y,H1,I1,ry,q1⟩=>Y9 (ho pins s1 σ H1 _ I1 q1) fun u s2 ⟨x,H2,I2,rx,a,ov,ex,g,q2⟩=>?_
 subst ex
 obtain rfl:u=Value.ref a:=rx
 exact d_notIn hu I2 g ry fun s3 I3=>⟨.bl (!ov.isSome),H2,I3,rfl,q2⟩
theorem ps_dput (hu:X.A.units+1<cLine) (ho:PE X o td) (hi:PE X i ty) (hv:PE X value tv) (hs:swapsWith value (some (.Subscript o i pos')) pos.line X.env=pure false) :
  PS X (.Assign [.Subscript o i pos'] value pos) (sDPut td ty tv):=by
 intro pins s σ H D I h
 refine wpAny_Assign_Subscript (Y9 (hv pins s σ H _ I h) fun r s1 ⟨v,H1,I1,rv,q1⟩=>Y9 (ho pins s1 σ H1 _ I1 q1) fun u s2 ⟨x,H2,I2,rx,q2⟩=>Y9 (hi pins s2 σ H2 _ I2 q2) fun iv s3 ⟨y,H3,I3,ry,a,H4,ex,g,q3⟩=>?_) hs
 subst ex
 obtain rfl:u=Value.ref a:=rx
 exact d_setItem hu I3 g ry rv fun s4 I4=>⟨σ,H4,I4,q3⟩
end
section
variable {X:Cx} {pos:Pos}
end
structure M1 (X:Cx) (o:Expr) (m:Str) (apos:Pos) (e:Expr) (cpos:Pos):Prop where
 base:attributeBase o m X.env (eval o X.env)=eval o X.env
 few:((backTo cpos (starEach [e] X.env)).all (fun x=>!x.1) && (backToKw cpos (keywordEach [] X.env)).all (fun x=>x.1.isSome)
  && decide (([e]:List Expr).length+([]:List Keyword).length+(if ([]:List Keyword).isEmpty then 0 else 1)<30))=true
 line:(apos.endLine == cpos.line)=true
 trees:backTo cpos (starEach [e] X.env)=[(false,eval e X.env)]
structure M2 (X:Cx) (o:Expr) (m:Str) (apos:Pos) (e f:Expr) (cpos:Pos):Prop where
 base:attributeBase o m X.env (eval o X.env)=eval o X.env
 few:((backTo cpos (starEach [e,f] X.env)).all (fun x=>!x.1) && (backToKw cpos (keywordEach [] X.env)).all (fun x=>x.1.isSome)
  && decide (([e,f]:List Expr).length+([]:List Keyword).length+(if ([]:List Keyword).isEmpty then 0 else 1)<30))=true
 line:(apos.endLine == cpos.line)=true
 trees:backTo cpos (starEach [e,f] X.env)=[(false,eval e X.env),(false,eval f X.env)]
def IsDct (H:Hp) (a:Addr):Prop:=(∃ kvs,Rd H a (.dK kvs))\/∃ kvs,Rd H a (.dT kvs)
theorem isDct_at {X:Cx} {pins:List (Addr × Obj)} {σ:St} {H:Hp} {s:Shared} {a:Addr} (I:Zs X pins σ H s) (d:IsDct H a) :
  s.TypeIs (.ref a) "dict" /\ (∀ b,Value.ref a=.ref b->∃ ob,s.heap.get? b=some ob/\ob.dict=none)/\(a == sysModules)=false:=by
 rcases d with ⟨kvs,e⟩ | ⟨kvs,e⟩
 ·obtain ⟨_,hd,vs,_,dd⟩:=dk_rd I.hok e
  refine ⟨dd.typeIs,fun b q=>?_,hd⟩
  cases q
  obtain ⟨ob,_,_,h1,h2,_⟩:=dd
  exact ⟨ob,h1,h2.2.1⟩
 ·obtain ⟨_,hd,xs,_,dd⟩:=dt_rd I.hok e
  refine ⟨dd.typeIs,fun b q=>?_,hd⟩
  cases q
  obtain ⟨ob,_,_,h1,h2,_⟩:=dd
  exact ⟨ob,h1,h2.2.1⟩
section
variable {X:Cx} {pins:List (Addr × Obj)} {σ:St} {H:Hp} {s:Shared} {a:Addr} {y d:V} {u r:Value} {o:Option V} {A:Around} {E:Value->Shared->Prop}
theorem d_get1 {Q:Value->Shared->Prop} (hu:A.units+1<cLine) (I:Zs X pins σ H s) (g:DGet H a y o) (ry:Z2 y u) (h:∀ w' s',Zs X pins σ H s'->Z2 (o.getD .non) w'->Q w' s') :
  wpAny (model X.prog X.w) A (call (.builtin "dict.get") [.ref a,u]) Q E s:=by
 rcases g with ⟨kvs,k,e,ey,l⟩ | ⟨kvs,k,b,e,ey,eb,l⟩
 ·subst ey
  obtain ⟨z,hd,vs,rel,dd⟩:=dk_rd I.hok e
  refine call_meetsIn PySem.F.slot_dict_get dd.typeIs PySem.F.entry_dict_get (PySem.F.args_dict_get_2 _ _) (meets_dict_get (Z8 X.prog X.w) a (kV_is ry) hd) ⟨_,dd.mapOf,h _ _ (I.tok _) ?_⟩
  rw [l]
  exact (rel.val k).getD rfl
 ·subst ey
  cases (show u=Value.ref b from ry)
  obtain ⟨z,hd,xs,rel,dd⟩:=dt_rd I.hok e
  refine call_meetsIn PySem.F.slot_dict_get dd.typeIs PySem.F.entry_dict_get (PySem.F.args_dict_get_2 _ _) (meetsH_dict_get (tupleKind (Z8 X.prog X.w)) a b hd) ⟨tupleKind_room_in1 hu,k,xs,key_of I.hok eb,dd,h _ _ (I.tok _) ?_⟩
  rw [l]
  exact (rel.val k).getD rfl
theorem d_get2 {Q:Value->Shared->Prop} (hu:A.units+1<cLine) (I:Zs X pins σ H s) (g:DGet H a y o) (ry:Z2 y u) (rd:Z2 d r) (h:∀ w' s',Zs X pins σ H s'->Z2 (o.getD d) w'->Q w' s') :
  wpAny (model X.prog X.w) A (call (.builtin "dict.get") [.ref a,u,r]) Q E s:=by
 rcases g with ⟨kvs,k,e,ey,l⟩ | ⟨kvs,k,b,e,ey,eb,l⟩
 ·subst ey
  obtain ⟨z,hd,vs,rel,dd⟩:=dk_rd I.hok e
  refine call_meetsIn PySem.F.slot_dict_get dd.typeIs PySem.F.entry_dict_get (PySem.F.args_dict_get_3 _ _ _) (meets_dict_get_default (Z8 X.prog X.w) a (kV_is ry) hd r) ⟨_,dd.mapOf,h _ _ (I.tok _) ?_⟩
  rw [l]
  exact (rel.val k).getD rd
 ·subst ey
  cases (show u=Value.ref b from ry)
  obtain ⟨z,hd,xs,rel,dd⟩:=dt_rd I.hok e
  refine call_meetsIn PySem.F.slot_dict_get dd.typeIs PySem.F.entry_dict_get (PySem.F.args_dict_get_3 _ _ _) (meetsH_dict_get_default (tupleKind (Z8 X.prog X.w)) a b hd r) ⟨tupleKind_room_in1 hu,k,xs,key_of I.hok eb,dd,h _ _ (I.tok _) ?_⟩
  rw [l]
  exact (rel.val k).getD rd
end
def tDGet1 (td ty:TE):TE:=fun σ H Q=>td σ H fun x H1=>∃ a,x=.ref a/\IsDct H1 a/\ty σ H1 fun y H2=>∃ o,DGet H2 a y o/\Q (o.getD .non) H2
def tDGet2 (td ty tx:TE):TE:=fun σ H Q=>td σ H fun x H1=>∃ a,x=.ref a/\IsDct H1 a/\ty σ H1 fun y H2=>tx σ H2 fun z H3=>∃ o,DGet H3 a y o/\Q (o.getD z) H3
section
variable {X:Cx} {o e f:Expr} {apos cpos:Pos} {td ty tx:TE}
theorem pe_dget1 (hu:X.A.units+1<cLine) (ho:PE X o td) (he:PE X e ty) (m:M1 X o "get" apos e cpos):PE X (.Call (.Attribute o "get" apos) [e] [] cpos) (tDGet1 td ty):=by
 intro pins s σ H Q I h
 refine wpAny_Call_method m.base m.few m.line PySem.F.plainAttrs_dict PySem.F.slot_dict_get PySem.F.type_dict_get (Y9 (ho pins s σ H _ I h) fun u s1 ⟨x,H1,I1,rx,a,ex,d,q1⟩=>?_)
 subst ex
 obtain rfl:u=Value.ref a:=rx
 obtain ⟨t1,t2,_⟩:=isDct_at I1 d
 refine ⟨t1,t2, ?_⟩
 rw [m.trees]
 refine Calls.callWith_builtin rfl (Calls.evalArgs_plain (Calls.spliced_cons (Y9 (he pins s1 σ H1 _ I1 q1) fun iv s2 ⟨y,H2,I2,ry,ov,g,q2⟩=>Calls.spliced_nil ?_)))
 exact d_get1 hu I2 g ry fun w' s3 I3 rw'=>⟨_,H2,I3,rw',q2⟩
theorem pe_dget2 (hu:X.A.units+1<cLine) (ho:PE X o td) (he:PE X e ty) (hf:PE X f tx) (m:M2 X o "get" apos e f cpos):PE X (.Call (.Attribute o "get" apos) [e,f] [] cpos) (tDGet2 td ty tx):=by
 intro pins s σ H Q I h
 refine wpAny_Call_method m.base m.few m.line PySem.F.plainAttrs_dict PySem.F.slot_dict_get PySem.F.type_dict_get (Y9 (ho pins s σ H _ I h) fun u s1 ⟨x,H1,I1,rx,a,ex,d,q1⟩=>?_)
 subst ex
 obtain rfl:u=Value.ref a:=rx
 obtain ⟨t1,t2,_⟩:=isDct_at I1 d
 refine ⟨t1,t2, ?_⟩
 rw [m.trees]
 refine Calls.callWith_builtin rfl (Calls.evalArgs_plain (Calls.spliced_cons (Y9 (he pins s1 σ H1 _ I1 q1) fun iv s2 ⟨y,H2,I2,ry,q2⟩ =>
  Calls.spliced_cons (Y9 (hf pins s2 σ H2 _ I2 q2) fun fv s3 ⟨z,H3,I3,rz,ov,g,q3⟩=>Calls.spliced_nil ?_))))
 exact d_get2 hu I3 g ry rz fun w' s4 I4 rw'=>⟨_,H3,I4,rw',q3⟩
end
section
variable {X:Cx} {pins:List (Addr × Obj)} {σ:St} {H:Hp} {s:Shared} {a:Addr} {kvs:List (Yt × V)} {A:Around} {E:Value->Shared->Prop}
theorem d_copyOf {Q:Value->Shared->Prop} (I:Zs X pins σ H s) (e:Rd H a (.dK kvs)) (h:∀ p s',H p=none->Zs X pins σ (Z3 H p (.dK kvs)) s'->Q (.ref p) s'):wpAny (model X.prog X.w) A (call (.type "dict") [.ref a]) Q E s:=by
 obtain ⟨z,hd,vs,rel,dd⟩:=dk_rd I.hok e
 refine kt_call_dict hd dd (by rw [<-rel.length]; exact z) fun h' dd' hs=>?_
 refine h _ _ (I.hok.fresh (Nat.le_refl _)) (I.laid (a:=s.heap.objs.size) (o:=.dK kvs) (t':=s.toks) (fun b q hq=>?_) (Nat.le_refl _) (dk_new z (beq_eq_false_iff_ne.mpr (Ne.symm (Nat.ne_of_lt I.big))) rel dd'))
 exact (hs.2 b (Nat.ne_of_lt (Heap.lt_size hq))).trans (Heap.get?_push_of_some _ hq)
end
section
variable {X:Cx} {pins:List (Addr × Obj)} {σ:St} {H:Hp} {s:Shared} {a:Addr} {y:V} {u:Value} {A:Around} {E:Value->Shared->Prop}
end
section
variable {X:Cx}
end
section
variable {κ:Type} [DecidableEq κ]
end
section
variable {X:Cx} {pins:List (Addr × Obj)} {σ:St} {H:Hp} {s:Shared}
theorem Zs.freeze {d:Addr} {kvs:List (Yt × V)} (I:Zs X pins σ H s) (e:H d=some (.dK kvs)):∃ o,s.heap.get? d=some o/\Zs X pins σ (Z3 H d (.frz o (.dK kvs))) s:=by
 obtain ⟨z,y,vs,r,o,es,ep,ho,c⟩:=(show Yu X.prog X.w H s.heap d (.dK kvs) from I.hok d _ e)
 have ne:∀ {b:Addr} {u:HO},H b=some u->(∀ k,u≠.dK k)->b≠d:=fun h n z=>by
  rw [z,e] at h
  cases h
  exact n _ rfl
 refine ⟨o,ho, ?_⟩
 refine I.step (g':=s.gens) (d':=s.drawn) (t':=s.toks) (h':=s.heap) (ch:=[]) (fun _ z=>nomatch z) (fun _ _ _ _ _ h _=>h) (fun _ o _ _ _ h _=>⟨o.slots,h⟩) (fun b _ _ _ n=>?_) (fun _ o _ h=>⟨o,h⟩) (fun b xs h=>?_) (fun b o u h=>?_) (fun b ps h=>⟨#[], ?_⟩) (fun _ h=>h) (fun b u h=>?_) I.bare
 ·rw [Zk (fun z=>by rw [z,e] at n; cases n)]; exact n
 ·rw [Zk (ne h fun _ z=>nomatch z)]; exact h
 ·rw [Zk (ne h fun _ z=>nomatch z)]; exact h
 ·rw [Zk (ne h fun _ z=>nomatch z),h]; simp
 ·by_cases q:b=d
  ·subst q
   rw [Zz] at h
   cases h
   exact ⟨ho,z,y,vs,r,o,es,ep,ho,c⟩
  ·rw [Zk q] at h
   refine (I.hok b u h).stay (fun c v hc q=>q) (fun c q=>?_) fun c xs q=>?_
   ·rw [Zk (ne q fun _ z=>nomatch z)]; exact q
   ·rw [Zk (ne q fun _ z=>nomatch z)]; exact q
def Itd (d:Addr) (o:Obj) (kvs:List (Yt × V)):It :=
 ⟨fun i H=>i<kvs.length/\H d=some (.frz o (.dK kvs)),fun i H v H'=>H'=H/\∃ k x,kvs[i]?=some (k,x)/\v=kV k,fun i H=>kvs.length<=i/\H d=some (.frz o (.dK kvs))⟩
def iDict (te:TE):TI:=fun σ H R=>te σ H fun x H1=>∃ d kvs,x=.ref d/\H1 d=some (.dK kvs)/\∀ o,R (Itd d o kvs) (Z3 H1 d (.frz o (.dK kvs)))
theorem at_of {d:Addr} {o:Obj} {kvs:List (Yt × V)} (I:Zs X pins σ H s) (e:H d=some (.frz o (.dK kvs))):∃ vs es ep,(d == sysModules)=false/\KV kvs vs/\o.data=.dict es ep/\s.heap.DictAt (Z8 X.prog X.w) d vs ep:=by
 obtain ⟨ho,z,y,vs,r,o',es,ep,ho',c⟩:=(show Yu X.prog X.w H s.heap d (.frz o (.dK kvs)) from I.hok d _ e)
 rw [ho] at ho'
 cases ho'
 exact ⟨vs,es,ep,y,r,c.2.1,o,es,ho,c⟩
theorem KV.at {κ:Type}:∀ {kvs:List (κ × V)} {vs:List (κ × Value)} {i:Nat} {k:κ} {x:V},KV kvs vs->kvs[i]?=some (k,x)->∃ v,vs[i]?=some (k,v)
 | [],_,i,k,x,_,e=>by simp at e
 | a::kvs,_,0,k,x,.cons h t,e=>by
  rename_i b bs
  simp at e
  subst e
  exact ⟨b.2,by rw [show k=b.1 from h.1]; rfl⟩
 | a::kvs,_,i+1,k,x,.cons h t,e=>by
  obtain ⟨v,e'⟩:=KV.at (i:=i) t (by simpa using e)
  exact ⟨v,by simpa using e'⟩
theorem kV_rel {P:Program} {w:World} {k:Yt} {u:Value} (h:(Z8 P w).is k u=true):Z2 (kV k) u:=by
 rcases Ym (show keyIs k u=true from h) with ⟨j,t,rfl,rfl⟩ | ⟨x,t,rfl,rfl⟩
 ·exact ⟨t,rfl⟩
 ·exact ⟨t,rfl⟩
theorem turn_dict {P:Program} {w:World} {K:W.Frag} {tg:Expr} (d it:Addr) (o:Obj) (kvs:List (Yt × V)) (es:Array DictEntry) (ep:Nat) (ho:o.data=.dict es ep) :
  Turn P w K tg (Itd d o kvs) [it] it (fun i h=>h.IsKeyIter it d i kvs.length ep) where
 mem:=by simp
 obj:=fun i h st b hb=>by
  have e:b=it:=by simpa using hb
  subst e
  obtain ⟨o,e,c,d⟩:=st
  exact ⟨o,e,fun v z=>by rw [d] at z; cases z⟩
 keep:=fun i h h' st k=>by
  obtain ⟨o,e,c,d⟩:=st
  exact ⟨o,k it (by simp) o e,c,d⟩
 item:=by
  intro X hP hw hK hc i pins s σ H E I hf st hg
  subst hP hw hK
  obtain ⟨hi,hd⟩:=hg
  obtain ⟨vs,es',ep',y,r,e',m⟩:=at_of I hd
  rw [ho] at e'
  cases e'
  obtain ⟨f0,f1,f2,f3,f4,f5⟩:=hf it (by simp)
  obtain ⟨v,hv⟩:=KV.at (i:=i) (k:=kvs[i].1) (x:=kvs[i].2) r (List.getElem?_eq_getElem hi)
  have ln:=r.length
  refine wpAny_pyNext_dict_item (by rw [<-ln]; exact st) m hv fun key h' hk st' sb=>?_
  have I1:Zs X pins σ H { s with heap:=h' }:=I.turned (t':=s.toks) (fun b o hb e=>(sb.2 b hb).trans e) f0 f1 f3 f4 f5
  obtain ⟨oo,e,c,dd⟩:=id st'
  exact ⟨key,rfl,go_of (s:={ s with heap:=h' }) e c dd (by decide) ⟨kV kvs[i].1,H,I1,kV_rel hk,⟨rfl,_,_,List.getElem?_eq_getElem hi,rfl⟩,by rw [ln]; exact st',fun b hb=>(hf b hb).1⟩⟩
 done:=by
  intro X hP hw hK hc i pins s σ H E I hf st hg
  subst hP hw hK
  obtain ⟨hi,hd⟩:=hg
  obtain ⟨vs,es',ep',y,r,e',m⟩:=at_of I hd
  rw [ho] at e'
  cases e'
  obtain ⟨f0,f1,f2,f3,f4,f5⟩:=hf it (by simp)
  have ln:=r.length
  exact wpAny_pyNext_dict_end (I.ok.hd hc) (by rw [<-ln]; exact st) m (List.getElem?_eq_none (by omega)) fun h' eb=>⟨rfl,I.turned (t':=s.toks) (fun b o hb e=>eb b o hb e) f0 f1 f3 f4 f5⟩
 self:=fun _ _ _ _ _ st h=>wpAny_pyIter_keyiter st h
theorem pi_dict {tg l:Expr} {tl:TE} (hl:PE X l tl):PI X tg l (iDict tl):=by
 intro pins s σ H R I h
 refine Y9 (hl pins s σ H _ I h) fun v s1 ⟨x,H1,I1,r1,q1⟩=>?_
 obtain ⟨d,kvs,e,hd,q⟩:=q1
 subst e
 cases r1
 obtain ⟨o,ho,I2⟩:=I1.freeze hd
 obtain ⟨vs,es,ep,y,r,e',m⟩:=at_of I2 Zz
 have ln:=r.length
 refine wpAny_pyIter_dict y m ?_
 refine ⟨s1.heap.objs.size,[s1.heap.objs.size],_,_,_,rfl,I2.kept (t':=s1.toks) fun b o e=>Heap.get?_push_of_some _ e,turn_dict d _ o kvs es ep e',⟨_,Heap.get?_push_size _ rfl,rfl,by rw [ln]; rfl⟩,fun b hb=>?_,q o⟩
 have e:b=s1.heap.objs.size:=by simpa using hb
 subst e
 exact I2.fpOk (Nat.le_refl _) (I2.hok.fresh (Nat.le_refl _))
theorem for_dict {d:Addr} {o:Obj} {kvs:List (Yt × V)} {g:TG} {tb:TS} {D:Ends} {σ:St} {H:Hp} (Pv:Nat->St->Hp->Prop) (h0:Pv 0 σ H) (hl:∀ i σ H,i<=kvs.length->Pv i σ H->H d=some (.frz o (.dK kvs)))
  (hs:∀ i k x σ H,kvs[i]?=some (k,x)->Pv i σ H->g (kV k) σ H fun σ2 H2=>tb { D with nx:=Pv (i+1),ct:=Pv (i+1),bk:=D.nx } σ2 H2) (hd:∀ σ H,Pv kvs.length σ H->D.nx σ H) :
  ∃ W:Nat->Nat->St->Hp->Prop,(∃ m,W 0 m σ H)/\∀ i m σ H,W i m σ H ->
   ((Itd d o kvs).stop i H/\D.nx σ H)\/((Itd d o kvs).go i H/\∃ N:St->Hp->Prop,(∀ σ' H',N σ' H'->∃ m',m'<m/\W (i+1) m' σ' H')/\∀ x H',(Itd d o kvs).yld i H x H'->g x σ H' fun σ2 H2=>tb { D with nx:=N,ct:=N,bk:=D.nx } σ2 H2):=by
 refine ⟨fun i m σ H=>m=kvs.length - i/\i<=kvs.length/\Pv i σ H,⟨kvs.length,by simp,Nat.zero_le _,h0⟩, ?_⟩
 rintro i m σ H ⟨rfl,hi,p⟩
 have q:=hl i σ H hi p
 by_cases hlt:i<kvs.length
 ·refine .inr ⟨⟨hlt,q⟩,Pv (i+1),fun σ' H' p'=>⟨kvs.length - (i+1),by omega,rfl,hlt,p'⟩,fun x H' y=>?_⟩
  obtain ⟨e,k,z,ek,rfl⟩:=y
  subst e
  exact hs i k z σ _ ek p
 ·have e:i=kvs.length:=by omega
  subst e
  exact .inl ⟨⟨Nat.le_refl _,q⟩,hd σ H p⟩
theorem op_repL:OpR X (binaryOp .Mult) (fun x y H Q=>∃ (l:Addr) (k:Int) (a:V),x=.ref l/\y=.int k/\H l=some (.lst [a])/\(k=0\/k=1)/\∀ p,H p=none->Q (.ref p) (Z3 H p (.lst (List.replicate k.toNat a)))):=by
 intro pins s σ H x y v u Q I rx ry h
 obtain ⟨l,k,a,rfl,rfl,hH,hk,q⟩:=h
 cases rx
 obtain ⟨t,rfl⟩:=ry
 obtain ⟨_,its,n,rv,ho⟩:=(show Yu X.prog X.w H s.heap l (.lst [a]) from I.hok l _ hH)
 obtain ⟨b,rfl,rb⟩:=rv.one
 refine wpAny_binaryOp_repeat_ref (T:="list") (U:="int") (by decide) ⟨_,ho,rfl⟩ (fun s'=>typeIs_int s' k t) noFill_list_mul F.fills_int_mul F.slot_int_rmul repeat_list F.slot_int_index.lookup
  (call_meets F.slot_int_rmul (typeIs_int s k t) F.entry_int_rmul (F.args_int_rmul_2 _ _) (int___rmul___int_list k t l [b].toArray n)
   ⟨ho,rfl,⟨_,ho,rfl⟩,call_meets F.slot_list_mul ⟨_,ho,rfl⟩ F.entry_list_mul (F.args_list_mul_2 _ _)
    (AutoListH.list___mul___list_int_3 l [b].toArray n k t (by simp [Builtin.List.listFitsIndex]; omega) (by rcases hk with rfl | rfl <;> simp) (by rcases hk with rfl | rfl <;> simp [Builtin.List.listTooLong,sizeLine]))
    ⟨ho, ?_⟩⟩)
 refine ⟨.ref _,_,I.laid (t':=s.toks) (o:=.lst (List.replicate k.toNat a)) (fun b u e=>Heap.get?_push_of_some _ e) (Nat.le_refl _) ?_,rfl,q _ (I.hok.fresh (Nat.le_refl _))⟩
 rcases hk with rfl | rfl
 ·exact ⟨Nat.zero_le _,[],0,.nil,Heap.get?_push_size _ rfl⟩
 ·exact ⟨by show 1<=sizeLine; decide,[b],0,.cons rb .nil,Heap.get?_push_size _ rfl⟩
theorem call_dictOf:CallR X (.type "dict") (fun xs H Q=>∃ (a:Addr) (kvs:List (Yt × V)),xs=[.ref a]/\Rd H a (.dK kvs)/\∀ p,H p=none->Q (.ref p) (Z3 H p (.dK kvs))):=by
 intro pins s σ H xs us Q I r h
 obtain ⟨a,kvs,rfl,e,q⟩:=h
 obtain ⟨u,rfl,rx⟩:=vals1 r
 cases rx
 exact d_copyOf I e fun p s' hp I'=>⟨.ref p,_,I',rfl,q p hp⟩
end
def Fd (r:Nat) (H:Hp) (l:Addr):Prop:=∃ (a:Addr) (ns:List Int) (b c d:Int),H l=some (.lst [.ref a,.int b,.int c,.int d])/\H a=some (.lst (ns.map V.int))/\1<=ns.length/\ns.length<=64/\0<=b/\0<=d/\d+(r:Int)<=1000000000000
theorem Fd.mono {r r':Nat} {H:Hp} {l:Addr} (f:Fd r H l) (h:r'<=r):Fd r' H l:=by
 obtain ⟨a,ns,b,c,d,e,e2,h1,h2,h3,h4,h5⟩:=f
 exact ⟨a,ns,b,c,d,e,e2,h1,h2,h3,h4,by omega⟩
def cellOf (H:Hp) (l:Addr):Option V:=match H l with
 | some (.lst (x::_))=>some x
 | _=>none
structure Y5 (l:Addr) (r:Nat) (H H':Hp):Prop where
 keep:∀ x o,x≠l->H x=some o->H' x=some o
 feed:Fd r H' l
 cell:cellOf H' l=cellOf H l
theorem cellOf_eq {H:Hp} {l:Addr} {x:V} {r:List V} (h:H l=some (.lst (x::r))):cellOf H l=some x:=by unfold cellOf; rw [h]
theorem cellOf_some {H:Hp} {l:Addr} {x:V} (h:cellOf H l=some x):∃ r,H l=some (.lst (x::r)):=by
 unfold cellOf at h
 split at h
 ·rename_i y r e
  cases h
  exact ⟨r,e⟩
 ·cases h
theorem fd_ne {l a:Addr} {ns:List Int} {b c d:Int} {H:Hp} (h1:H l=some (.lst [.ref a,.int b,.int c,.int d])) (h2:H a=some (.lst (ns.map V.int))):a≠l:=fun e=>by
 rw [e,h1] at h2
 injection h2 with h2
 injection h2 with h2
 cases ns with
 | nil=>cases h2
 | cons n ns=>injection h2 with h3 _; cases h3
theorem Y5.refl {l:Addr} {r:Nat} {H:Hp} (f:Fd r H l):Y5 l r H H:=⟨fun _ _ _ h=>h,f,rfl⟩
theorem Y5.mono {l:Addr} {r r':Nat} {H H1:Hp} (a:Y5 l r H H1) (h:r'<=r):Y5 l r' H H1:=⟨a.keep,a.feed.mono h,a.cell⟩
theorem Y5.trans {l:Addr} {r r':Nat} {H H1 H2:Hp} (a:Y5 l r H H1) (b:Y5 l r' H1 H2):Y5 l r' H H2:=⟨fun x o n h=>b.keep x o n (a.keep x o n h),b.feed,b.cell.trans a.cell⟩
theorem Fd.ne {l p:Addr} {r:Nat} {H:Hp} (f:Fd r H l) (h:H p=none):p≠l:=fun e=>by
 obtain ⟨a,ns,b,c,d,q,_⟩:=f
 rw [e,q] at h
 cases h
theorem Fd.put {l p:Addr} {r:Nat} {H:Hp} {o:HO} (f:Fd r H l) (h:H p=none):Fd r (Z3 H p o) l:=by
 obtain ⟨a,ns,b,c,d,e,e2,rr⟩:=f
 exact ⟨a,ns,b,c,d,by rw [Zk (Z4 e h)]; exact e,by rw [Zk (Z4 e2 h)]; exact e2,rr⟩
theorem Fd.set {l p:Addr} {r:Nat} {H:Hp} {o u:HO} (f:Fd r H l) (h:H p=some u) (n:∀ xs,u≠.lst xs):Fd r (Z3 H p o) l:=by
 obtain ⟨a,ns,b,c,d,e,e2,rr⟩:=f
 have ne:∀ {x:Addr} {xs:List V},H x=some (.lst xs)->x≠p:=fun e z=>by
  rw [z,h] at e
  cases e
  exact n _ rfl
 exact ⟨a,ns,b,c,d,by rw [Zk (ne e)]; exact e,by rw [Zk (ne e2)]; exact e2,rr⟩
theorem Y5.free {l:Addr} {r:Nat} {H H':Hp} (a:Y5 l r H H') {p:Addr} (h:H' p=none):H p=none:=by
 cases q:H p with
 | none=>rfl
 | some o =>
  by_cases e:p=l
  ·obtain ⟨_,_,_,_,_,z,_⟩:=a.feed
   rw [e,z] at h
   cases h
  ·rw [a.keep p o e q] at h
   cases h
theorem Fd.same {l:Addr} {r:Nat} {H H':Hp} (f:Fd r H l) (s:Zv H H'):Fd r H' l:=by
 obtain ⟨a,ns,b,c,d,e,e2,rr⟩:=f
 exact ⟨a,ns,b,c,d,s _ _ e,s _ _ e2,rr⟩
theorem Y5.same {l:Addr} {r:Nat} {H H1 H2:Hp} (a:Y5 l r H H1) (b:Zv H1 H2):Y5 l r H H2:=⟨fun x o n h=>b _ _ (a.keep x o n h),a.feed.same b,by
 obtain ⟨c,ns,x,y,z,e,_⟩:=a.feed
 rw [<-a.cell,cellOf_eq e,cellOf_eq (b _ _ e)]⟩
theorem Y5.lay {l p:Addr} {r:Nat} {H H':Hp} {o:HO} (a:Y5 l r H H') (h:H' p=none):Y5 l r H (Z3 H' p o):=a.same (Zv.lay h)
theorem Y5.put {l p:Addr} {r:Nat} {H H':Hp} {o:HO} (a:Y5 l r H H') (h:H p=none) (hc:∀ q r',H l=some (.lst (.ref q::r'))->p≠q):Y5 l r H (Z3 H' p o):=by
 obtain ⟨c,ns,x,y,z,e,e2,rr⟩:=a.feed
 have ec:=a.cell
 rw [cellOf_eq e] at ec
 obtain ⟨r',eH⟩:=cellOf_some ec.symm
 have n1:l≠p:=Z4 eH h
 have n2:c≠p:=(hc c r' eH).symm
 refine ⟨fun x u q e=>by rw [Zk (Z4 e h)]; exact a.keep x u q e,⟨c,ns,x,y,z,by rw [Zk n1]; exact e,by rw [Zk n2]; exact e2,rr⟩, ?_⟩
 rw [cellOf_eq (by rw [Zk n1]; exact e),ec]
theorem Fd.far {l p:Addr} {r:Nat} {H:Hp} (f:Fd r H l) (h:H p=none):∀ q r',H l=some (.lst (.ref q::r'))->p≠q:=by
 obtain ⟨c,ns,x,y,z,e,e2,rr⟩:=f
 intro q r' e' z'
 rw [e] at e'
 cases e'
 rw [z',e2] at h
 cases h
theorem Fd.cell {l p:Addr} {r:Nat} {H:Hp} {o:HO} (f:Fd r H l) (n:p≠l) (g:∀ (a:Addr) (ns:List Int) (b c d:Int),H l=some (.lst [.ref a,.int b,.int c,.int d])->H a=some (.lst (ns.map V.int))->p≠a):Fd r (Z3 H p o) l:=by
 obtain ⟨a,ns,b,c,d,e,e2,rr⟩:=f
 exact ⟨a,ns,b,c,d,by rw [Zk n.symm]; exact e,by rw [Zk (g a ns b c d e e2).symm]; exact e2,rr⟩
theorem Y5.up {K:W.Frag} {l:Addr} {r r':Nat} {H H':Hp} (a:Y5 l r H H') (f:Fd r' H l):Up K H H':=fun c xs h=>by
 have ne:∀ o,H c=some o->(∀ ys,o≠.lst ys)->c≠l:=fun o e n q=>by
  obtain ⟨_,_,_,_,_,z,_⟩:=f
  rw [q,z] at e
  cases e
  exact n _ rfl
 rcases h with (h | ⟨o,h⟩) | h
 ·exact .inl (.inl (a.keep _ _ (ne _ h fun _ z=>nomatch z) h))
 ·exact .inl (.inr ⟨o,a.keep _ _ (ne _ h fun _ z=>nomatch z) h⟩)
 ·exact .inr h
theorem Y5.upT {K:W.Frag} {l:Addr} {r r':Nat} {H H':Hp} (a:Y5 l r H H') (f:Fd r' H l):Vc K H H':=by
 obtain ⟨x,ns,y,z,w,e,_⟩:=id f
 refine ⟨a.up f,fun p xs h=>?_,fun p k h=>?_,fun p o k h=>?_⟩
 ·by_cases q:p=l
  ·obtain ⟨_,_,_,_,_,e',_⟩:=a.feed
   exact ⟨_,by rw [q]; exact e'⟩
  ·exact ⟨xs,a.keep p _ q h⟩
 ·refine a.keep p _ (fun q=>?_) h
  rw [q,e] at h
  cases h
 ·refine a.keep p _ (fun q=>?_) h
  rw [q,e] at h
  cases h
end L2
namespace ZipT
open PySem
theorem iterK {h h':Heap} {b i t:Addr} {k:Nat} (st:h.IsTupleIter i t k) (e:Heap.ExtBut b h h') (n:i≠b):h'.IsTupleIter i t k:=let ⟨o,ho,r⟩:=st; ⟨o,e _ _ n ho,r⟩
theorem tupK {h h':Heap} {b t:Addr} {xs:Array Value} (st:h.IsTuple t xs) (e:Heap.ExtBut b h h') (n:t≠b):h'.IsTuple t xs:=let ⟨o,ho,r⟩:=st; ⟨o,e _ _ n ho,r⟩
section
variable {prog:Program} {w:World} {A:Around} {E:Value->Shared->Prop} {s:Shared} {z TI TO i1 i2 t1 t2:Addr} {k:Nat} {xs ys:Array Value} {x y a b:Value}
theorem itemT {Q:Value->Shared->Prop} (D:ZipApart z TI TO i1 i2 t1 t2) (hz:IsZip s.heap z TI TO .none) (hI:IsPair s.heap TI (.ref i1) (.ref i2)) (hO:IsPair s.heap TO a b) (j1:s.heap.IsTupleIter i1 t1 k) (j2:s.heap.IsTupleIter i2 t2 k) (p1:s.heap.IsTuple t1 xs) (p2:s.heap.IsTuple t2 ys) (hx:xs[k]?=some x) (hy:ys[k]?=some y)
  (q:∀ h',IsZip h' z TI TO (rawInt s.heap.objs.size)->IsPair h' TO x y->h'.IsTupleIter i1 t1 (k+1)->h'.IsTupleIter i2 t2 (k+1)->IsPair h' s.heap.objs.size x y->h'.objs.size=s.heap.objs.size+1->(∀ c o,c≠z->c≠TO->c≠i1->c≠i2->s.heap.get? c=some o->h'.get? c=some o)->Q (.ref s.heap.objs.size) { s with heap:=h' }) :
  wpAny (model prog w) A (Builtin.«zip.__next__» ⟨[.ref z],[]⟩) (fun fin s'=>∃ v,fin=.done (.ret v)/\Q v s') E s:=by
 show wpAny _ _ (field (.ref z) 2 >>= _) _ _ _; refine wpAny_bind (wpAny_field hz rfl (x:=.bool false) rfl ?_)
 show wpAny _ _ (field (.ref z) 3 >>= _) _ _ _; refine wpAny_bind (wpAny_field hz rfl (x:=.ref TI) rfl (wpAny_bind (wpAny_seqItems hI rfl ?_)))
 show wpAny _ _ (Builtin.SmallTypes.ownedTupleIsFree (.ref z) >>= _) _ _ _; refine wpAny_bind ?_; unfold Builtin.SmallTypes.ownedTupleIsFree
 refine wpAny_bind (wpAny_field hz rfl (x:=.none) rfl (wpAny_pure ?_)); simp only [if_true]; refine wpAny_bind (wpAny_rule (wpAny_bind (wpAny_field hz rfl (x:=.ref TO) rfl ?_)))
 refine wpAny_bind (wpAny_setField_rec hz (by simp) fun g1 hz1 e1=>?_); replace hz1:IsZip g1 z TI TO .ellipsis:=hz1
 refine wpAny_bind ?_; simp only [List.zipIdx_cons,List.zipIdx_nil,List.forIn_cons,List.forIn_nil]; refine wpAny_bind (wpAny_bind (wpAny_onRaise ?_))
 show wpAny _ _ (Builtin.SmallTypes.nextOf (.ref i1) >>= _) _ _ _; refine wpAny_bind (EnuT.nextT (iterK j1 e1.extBut D.i1z) (tupK p1 e1.extBut D.l1z) hx fun g2 j12 e2=>wpAny_pure ?_)
 have hO2:IsPair g2 TO a b:=e2.extBut _ _ D.TOi1 (e1.extBut _ _ D.TOz hO)
 refine wpAny_bind (wpAny_seqItems hO2 rfl (wpAny_bind (wpAny_updateSeq_pair hO2 fun g3 hO3 e3=>?_))); replace hO3:IsPair g3 TO x b:=hO3
 refine wpAny_bind (wpAny_letGo (wpAny_pure (wpAny_bind (wpAny_bind (wpAny_onRaise ?_)))))
 show wpAny _ _ (Builtin.SmallTypes.nextOf (.ref i2) >>= _) _ _ _
 refine wpAny_bind (EnuT.nextT (iterK (iterK (iterK j2 e1.extBut D.i2z) e2.extBut D.i12.symm) e3.extBut D.TOi2.symm) (tupK (tupK (tupK p2 e1.extBut D.l2z) e2.extBut D.l2i1) e3.extBut D.l2TO) hy fun g4 j24 e4=>wpAny_pure ?_)
 have hO4:IsPair g4 TO x b:=e4.extBut _ _ D.TOi2 hO3
 refine wpAny_bind (wpAny_seqItems hO4 rfl (wpAny_bind (wpAny_updateSeq_pair hO4 fun g5 hO5 e5=>?_))); replace hO5:IsPair g5 TO x y:=hO5
 refine wpAny_bind (wpAny_letGo (wpAny_pure (wpAny_pure (wpAny_bind (wpAny_seqItems hO5 rfl (wpAny_bind (wpAny_newTuple ?_)))))))
 have sz:g5.objs.size=s.heap.objs.size:=by rw [e5.1,e4.1,e3.1,e2.1,e1.1]
 have hz5:IsZip g5 z TI TO .ellipsis:=e5.extBut _ _ D.TOz.symm (e4.extBut _ _ D.i2z.symm (e3.extBut _ _ D.TOz.symm (e2.extBut _ _ D.i1z.symm hz1)))
 have kp:∀ c o,c≠z->c≠TO->c≠i1->c≠i2->s.heap.get? c=some o->g5.get? c=some o:=fun c o c1 c2 c3 c4 e=>e5.extBut _ _ c2 (e4.extBut _ _ c4 (e3.extBut _ _ c2 (e2.extBut _ _ c3 (e1.extBut _ _ c1 e))))
 have j15:g5.IsTupleIter i1 t1 (k+1):=iterK (iterK (iterK j12 e3.extBut D.TOi1.symm) e4.extBut D.i12) e5.extBut D.TOi1.symm
 have j25:g5.IsTupleIter i2 t2 (k+1):=iterK j24 e5.extBut D.TOi2.symm
 have zl:z<g5.objs.size:=Heap.lt_size hz5
 show wpAny _ _ (Builtin.SmallTypes.ownedTupleHandOut (.ref z) (.ref g5.objs.size) >>= _) _ _ _; refine wpAny_bind ?_; unfold Builtin.SmallTypes.ownedTupleHandOut
 have hz6:IsZip (g5.push { cls:=.type "tuple",data:=.seq #[x,y] }) z TI TO .ellipsis:=Heap.get?_push_of_some _ hz5
 refine wpAny_bind (wpAny_setField_rec hz6 (by simp) fun g7 hz7 e7=>?_); replace hz7:IsZip g7 z TI TO (rawInt g5.objs.size):=hz7
 refine wpAny_setField_rec hz7 (by simp) fun g8 hz8 e8=>?_; replace hz8:IsZip g8 z TI TO (rawInt g5.objs.size):=hz8
 have up:∀ c o,c≠z->g5.get? c=some o->g8.get? c=some o:=fun c o c1 e=>e8.extBut _ _ c1 (e7.extBut _ _ c1 (Heap.get?_push_of_some _ e))
 have hT8:IsPair g8 g5.objs.size x y:=e8.extBut _ _ (Nat.ne_of_gt zl) (e7.extBut _ _ (Nat.ne_of_gt zl) (Heap.get?_push_size _ rfl))
 have sz8:g8.objs.size=g5.objs.size+1:=by rw [e8.1,e7.1,Heap.size_push]
 rw [sz] at hz8 hT8 sz8; refine wpAny_pure ⟨_,rfl, ?_⟩; show Q (.ref g5.objs.size) _; rw [sz]
 exact q g8 hz8 (up _ _ D.TOz hO5) (let ⟨o,ho,r⟩:=j15; ⟨o,up _ _ D.i1z ho,r⟩) (let ⟨o,ho,r⟩:=j25; ⟨o,up _ _ D.i2z ho,r⟩) hT8 sz8 fun c o c1 c2 c3 c4 e=>up c o c1 (kp c o c1 c2 c3 c4 e)
theorem endT {Q:Fin->Shared->Prop} (hh:A.handled=none) (D:ZipApart z TI TO i1 i2 t1 t2) (hz:IsZip s.heap z TI TO .none) (hI:IsPair s.heap TI (.ref i1) (.ref i2)) (hO:IsPair s.heap TO a b) (j1:s.heap.IsTupleIter i1 t1 k) (j2:s.heap.IsTupleIter i2 t2 k) (p1:s.heap.IsTuple t1 xs) (p2:s.heap.IsTuple t2 ys) (hend:xs[k]?=none\/ys[k]?=none)
  (q:∀ h' e,(∀ c o,c≠z->c≠TO->c≠i1->c≠i2->s.heap.get? c=some o->h'.get? c=some o)->(∃ o,h'.get? e=some o/\o.cls=.type "StopIteration")->E (.ref e) { s with heap:=h' }) :
  wpAny (model prog w) A (Builtin.«zip.__next__» ⟨[.ref z],[]⟩) Q E s:=by
 show wpAny _ _ (field (.ref z) 2 >>= _) _ _ _; refine wpAny_bind (wpAny_field hz rfl (x:=.bool false) rfl ?_)
 show wpAny _ _ (field (.ref z) 3 >>= _) _ _ _; refine wpAny_bind (wpAny_field hz rfl (x:=.ref TI) rfl (wpAny_bind (wpAny_seqItems hI rfl ?_)))
 show wpAny _ _ (Builtin.SmallTypes.ownedTupleIsFree (.ref z) >>= _) _ _ _; refine wpAny_bind ?_; unfold Builtin.SmallTypes.ownedTupleIsFree
 refine wpAny_bind (wpAny_field hz rfl (x:=.none) rfl (wpAny_pure ?_)); simp only [if_true]; refine wpAny_bind (wpAny_rule (wpAny_bind (wpAny_field hz rfl (x:=.ref TO) rfl ?_)))
 refine wpAny_bind (wpAny_setField_rec hz (by simp) fun g1 hz1 e1=>?_); replace hz1:IsZip g1 z TI TO .ellipsis:=hz1
 refine wpAny_bind ?_; simp only [List.zipIdx_cons,List.zipIdx_nil,List.forIn_cons,List.forIn_nil]; refine wpAny_bind (wpAny_bind (wpAny_onRaise ?_))
 show wpAny _ _ (Builtin.SmallTypes.nextOf (.ref i1) >>= _) _ _ _
 cases hx:xs[k]? with
 | none =>
  refine wpAny_bind (EnuT.endT hh (iterK j1 e1.extBut D.i1z) (tupK p1 e1.extBut D.l1z) hx fun g2 e e2 he=>?_); obtain ⟨oe,hoe,hce⟩:=he
  have hz2:IsZip g2 z TI TO .ellipsis:=e2 _ _ D.i1z.symm hz1
  have ez:e≠z:=fun v=>by subst v; rw [hz2] at hoe; cases hoe; simp at hce
  exact wpAny_setField_rec hz2 (by simp) fun g3 _ e3=>q g3 e (fun c o c1 _ c3 _ v=>e3.extBut _ _ c1 (e2 _ _ c3 (e1.extBut _ _ c1 v))) ⟨oe,e3.extBut _ _ ez hoe,hce⟩
 | some x =>
  have hy:ys[k]?=none:=by rcases hend with h | h; rw [hx] at h; cases h; exact h
  refine wpAny_bind (EnuT.nextT (iterK j1 e1.extBut D.i1z) (tupK p1 e1.extBut D.l1z) hx fun g2 j12 e2=>wpAny_pure ?_)
  have hO2:IsPair g2 TO a b:=e2.extBut _ _ D.TOi1 (e1.extBut _ _ D.TOz hO)
  refine wpAny_bind (wpAny_seqItems hO2 rfl (wpAny_bind (wpAny_updateSeq_pair hO2 fun g3 hO3 e3=>?_)))
  refine wpAny_bind (wpAny_letGo (wpAny_pure (wpAny_bind (wpAny_bind (wpAny_onRaise ?_)))))
  show wpAny _ _ (Builtin.SmallTypes.nextOf (.ref i2) >>= _) _ _ _
  refine wpAny_bind (EnuT.endT hh (iterK (iterK (iterK j2 e1.extBut D.i2z) e2.extBut D.i12.symm) e3.extBut D.TOi2.symm) (tupK (tupK (tupK p2 e1.extBut D.l2z) e2.extBut D.l2i1) e3.extBut D.l2TO) hy fun g4 e e4 he=>?_)
  obtain ⟨oe,hoe,hce⟩:=he
  have hz4:IsZip g4 z TI TO .ellipsis:=e4 _ _ D.i2z.symm (e3.extBut _ _ D.TOz.symm (e2.extBut _ _ D.i1z.symm hz1))
  have ez:e≠z:=fun v=>by subst v; rw [hz4] at hoe; cases hoe; simp at hce
  exact wpAny_setField_rec hz4 (by simp) fun g5 _ e5=>q g5 e (fun c o c1 c2 c3 c4 v=>e5.extBut _ _ c1 (e4 _ _ c4 (e3.extBut _ _ c2 (e2.extBut _ _ c3 (e1.extBut _ _ c1 v))))) ⟨oe,e5.extBut _ _ ez hoe,hce⟩
theorem nextItem {Q:Option Value->Shared->Prop} (D:ZipApart z TI TO i1 i2 t1 t2) (hz:IsZip s.heap z TI TO .none) (hI:IsPair s.heap TI (.ref i1) (.ref i2)) (hO:IsPair s.heap TO a b) (j1:s.heap.IsTupleIter i1 t1 k) (j2:s.heap.IsTupleIter i2 t2 k) (p1:s.heap.IsTuple t1 xs) (p2:s.heap.IsTuple t2 ys) (hx:xs[k]?=some x) (hy:ys[k]?=some y)
  (q:∀ h',IsZip h' z TI TO (rawInt s.heap.objs.size)->IsPair h' TO x y->h'.IsTupleIter i1 t1 (k+1)->h'.IsTupleIter i2 t2 (k+1)->IsPair h' s.heap.objs.size x y->h'.objs.size=s.heap.objs.size+1->(∀ c o,c≠z->c≠TO->c≠i1->c≠i2->s.heap.get? c=some o->h'.get? c=some o)->Q (some (.ref s.heap.objs.size)) { s with heap:=h' }) :
  wpAny (model prog w) A (pyNext (.ref z)) Q E s:=by
 have T:s.TypeIs (.ref z) "zip" := ⟨_,hz,rfl⟩
 unfold pyNext
 exact wpAny_bind (wpAny_attempt (wpAny_callSpecial?_slot (name:=Str.ofString "__next__") T F.slot_zip_next (wpAny_call_entry F.slot_zip_next T F.entry_zip_next (itemT D hz hI hO j1 j2 p1 p2 hx hy fun h' a1 a2 a3 a4 a5 a6 a7=>wpAny_pure (q h' a1 a2 a3 a4 a5 a6 a7)) (F.args_zip_next_1 _))))
theorem nextEnd {Q:Option Value->Shared->Prop} (hh:A.handled=none) (D:ZipApart z TI TO i1 i2 t1 t2) (hz:IsZip s.heap z TI TO .none) (hI:IsPair s.heap TI (.ref i1) (.ref i2)) (hO:IsPair s.heap TO a b) (j1:s.heap.IsTupleIter i1 t1 k) (j2:s.heap.IsTupleIter i2 t2 k) (p1:s.heap.IsTuple t1 xs) (p2:s.heap.IsTuple t2 ys) (hend:xs[k]?=none\/ys[k]?=none)
  (q:∀ h',(∀ c o,c≠z->c≠TO->c≠i1->c≠i2->s.heap.get? c=some o->h'.get? c=some o)->Q none { s with heap:=h' }):wpAny (model prog w) A (pyNext (.ref z)) Q E s:=by
 have T:s.TypeIs (.ref z) "zip" := ⟨_,hz,rfl⟩
 unfold pyNext
 refine wpAny_bind (wpAny_attempt (wpAny_callSpecial?_slot (name:=Str.ofString "__next__") T F.slot_zip_next (wpAny_call_entry F.slot_zip_next T F.entry_zip_next (endT hh D hz hI hO j1 j2 p1 p2 hend fun h' e hk he=>?_) (F.args_zip_next_1 _))))
 obtain ⟨o,ho,hc⟩:=he
 exact wpAny_bind (wpAny_isInstance (T:="StopIteration") (b:=true) ⟨o,ho,hc⟩ isSubtype_stop (wpAny_pure (q _ hk)))
end
abbrev H1 (h:Heap) (l1:Addr):Heap:=h.push { cls:=.type "tuple_iterator",data:=.fields #[.ref l1,.int 0 0] }
abbrev H2 (h:Heap) (l1 l2:Addr):Heap:=(H1 h l1).push { cls:=.type "tuple_iterator",data:=.fields #[.ref l2,.int 0 0] }
abbrev H3 (h:Heap) (l1 l2:Addr):Heap:=(H2 h l1 l2).push { cls:=.type "tuple",data:=.seq #[.ref h.objs.size,.ref (H1 h l1).objs.size] }
abbrev H4 (h:Heap) (l1 l2:Addr):Heap:=(H3 h l1 l2).push { cls:=.type "tuple",data:=.seq #[.none,.none] }
abbrev H5 (h:Heap) (l1 l2:Addr):Heap:=(H4 h l1 l2).push { cls:=.type "zip",data:=.fields #[.none,.bool false,.bool false,.ref (H2 h l1 l2).objs.size,.ref (H3 h l1 l2).objs.size] }
theorem meets (l1 l2:Addr) (xs ys:Array Value) :
  Meets (Builtin.«zip.__new__» ⟨[.type "zip",.ref l1,.ref l2],[]⟩) (fun _ R s=>s.heap.IsTuple l1 xs/\s.heap.IsTuple l2 ys /\
   R (.ok (.ret (.ref (H4 s.heap l1 l2).objs.size))) { s with heap:=H5 s.heap l1 l2 }) :=
 .of_wp fun prog w A R s h=>by
  obtain ⟨hp,g,d,tk,os⟩:=s; obtain ⟨hl1,hl2,h⟩:=h
  have hsub:=sub_zip
  have hL1:Heap.IsTuple (Shared.heap ⟨hp,g,d,tk,os⟩) l1 xs:=hl1
  have hL2:Heap.IsTuple (Shared.heap ⟨hp.push { cls:=.type "tuple_iterator",data:=.fields #[.ref l1,.int 0 0] },g,d,tk,os⟩) l2 ys:=let ⟨o,ho,r⟩:=hl2; ⟨o,Heap.get?_push_of_some _ ho,r⟩
  wp_walk using wpAny_pyIter_tuple hL1,wpAny_pyIter_tuple hL2
  exact ⟨_,rfl,h⟩
theorem call2 {prog:Program} {w:World} {A:Around} {E:Value->Shared->Prop} {s:Shared} {l1 l2:Addr} {xs ys:Array Value} {Q:Value->Shared->Prop} (hl1:s.heap.IsTuple l1 xs) (hl2:s.heap.IsTuple l2 ys)
  (h:∀ h',IsZip h' (s.heap.objs.size+4) (s.heap.objs.size+2) (s.heap.objs.size+3) .none->IsPair h' (s.heap.objs.size+2) (.ref s.heap.objs.size) (.ref (s.heap.objs.size+1)) ->
   IsPair h' (s.heap.objs.size+3) .none .none->h'.IsTupleIter s.heap.objs.size l1 0->h'.IsTupleIter (s.heap.objs.size+1) l2 0->h'.objs.size=s.heap.objs.size+5 ->
   (∀ c o,s.heap.get? c=some o->h'.get? c=some o)->Q (.ref (s.heap.objs.size+4)) { s with heap:=h' }) :
  wpAny (model prog w) A (call (.type "zip") [.ref l1,.ref l2]) Q E s:=by
 refine callType_new F.called_zip (by decide) (F.typeCall_zip_2 _ _) (F.newCall_zip_2 _ _) (fun obj=>F.args_object_init_3 obj _ _) F.entry_zip_new (meets l1 l2 xs ys) ⟨hl1,hl2, ?_⟩
 have z1:(H1 s.heap l1).objs.size=s.heap.objs.size+1:=Heap.size_push ..
 have z2:(H2 s.heap l1 l2).objs.size=s.heap.objs.size+2:=by rw [Heap.size_push,z1]
 have z3:(H3 s.heap l1 l2).objs.size=s.heap.objs.size+3:=by rw [Heap.size_push,z2]
 have z4:(H4 s.heap l1 l2).objs.size=s.heap.objs.size+4:=by rw [Heap.size_push,z3]
 have z5:(H5 s.heap l1 l2).objs.size=s.heap.objs.size+5:=by rw [Heap.size_push,z4]
 have g5:(H5 s.heap l1 l2).get? (H4 s.heap l1 l2).objs.size=some _:=Heap.get?_push_size _ rfl
 have g4:(H5 s.heap l1 l2).get? (H3 s.heap l1 l2).objs.size=some _:=Heap.get?_push_of_some _ (Heap.get?_push_size _ rfl)
 have g3:(H5 s.heap l1 l2).get? (H2 s.heap l1 l2).objs.size=some _:=Heap.get?_push_of_some _ (Heap.get?_push_of_some _ (Heap.get?_push_size _ rfl))
 have g2:(H5 s.heap l1 l2).get? (H1 s.heap l1).objs.size=some _:=Heap.get?_push_of_some _ (Heap.get?_push_of_some _ (Heap.get?_push_of_some _ (Heap.get?_push_size _ rfl)))
 have g1:(H5 s.heap l1 l2).get? s.heap.objs.size=some _:=Heap.get?_push_of_some _ (Heap.get?_push_of_some _ (Heap.get?_push_of_some _ (Heap.get?_push_of_some _ (Heap.get?_push_size _ rfl))))
 show _/\_
 rw [z2,z3,z4] at g5
 rw [z1,z2] at g3
 rw [z3] at g4
 rw [z1] at g2
 rw [z4]
 exact ⟨⟨_,g5,rfl⟩,h _ g5 g3 g4 ⟨_,g1,rfl,rfl⟩ ⟨_,g2,rfl,rfl⟩ z5 fun c o x =>
  Heap.get?_push_of_some _ (Heap.get?_push_of_some _ (Heap.get?_push_of_some _ (Heap.get?_push_of_some _ (Heap.get?_push_of_some _ x))))⟩
end ZipT
namespace L2
open PySem PySem.Spec PyProof.Rows
def Itzt (K:W.Frag) (l1 l2:Addr):It :=
  ⟨fun i H=>∃ xs ys x y,Z6 K H l1 xs/\Z6 K H l2 ys/\xs[i]?=some x/\ys[i]?=some y,
   fun i H v H'=>∃ p x y,v=.ref p/\H p=none/\H'=Z3 H p (.tup [x,y])/\(∀ xs,Z6 K H l1 xs->xs[i]?=some x)/\∀ ys,Z6 K H l2 ys->ys[i]?=some y,
   fun i H=>∃ xs ys,Z6 K H l1 xs/\Z6 K H l2 ys/\(xs.length<=i\/ys.length<=i)⟩
theorem turn_zipT {P:Program} {w:World} {K:W.Frag} {es:List Expr} {k:Nat} {pos:Pos} (z TI TO i1 i2 l1 l2:Addr) (D:ZipApart z TI TO i1 i2 l1 l2) :
  Turn P w K (.Tuple es k pos) (Itzt K l1 l2) [z,TI,TO,i1,i2] z (fun i h=>IsZip h z TI TO .none/\IsPair h TI (.ref i1) (.ref i2)/\(∃ a b,IsPair h TO a b)/\h.IsTupleIter i1 l1 i/\h.IsTupleIter i2 l2 i) where
 mem:=by simp
 obj:=fun i h st b hb=>by
  obtain ⟨hz,hTI,⟨a,c,hTO⟩,⟨o1,e1,_,d1⟩,⟨o2,e2,_,d2⟩⟩:=st
  simp only [List.mem_cons,List.not_mem_nil,or_false] at hb
  rcases hb with rfl | rfl | rfl | rfl | rfl
  ·exact ⟨_,hz,fun v q=>nomatch q⟩
  ·exact ⟨_,hTI,fun v q=>nomatch q⟩
  ·exact ⟨_,hTO,fun v q=>nomatch q⟩
  ·exact ⟨_,e1,fun v q=>by rw [d1] at q; cases q⟩
  ·exact ⟨_,e2,fun v q=>by rw [d2] at q; cases q⟩
 keep:=fun i h h' st hk=>by
  obtain ⟨hz,hTI,⟨a,b,hTO⟩,h1,h2⟩:=st
  exact ⟨hk z (by simp) _ hz,hk TI (by simp) _ hTI,⟨a,b,hk TO (by simp) _ hTO⟩,(let ⟨o,ho,r⟩:=h1; ⟨o,hk i1 (by simp) o ho,r⟩),(let ⟨o,ho,r⟩:=h2; ⟨o,hk i2 (by simp) o ho,r⟩)⟩
 item:=by
  intro X hP hw hK hc i pins s σ H E I hf st hg
  subst hP hw hK
  obtain ⟨xs,ys,x,y,q1,q2,g1,g2⟩:=hg
  obtain ⟨hz,hTI,⟨a,b,hTO⟩,h1,h2⟩:=st
  obtain ⟨is1,v1,pl1,z1⟩:=I.tuple q1
  obtain ⟨is2,v2,pl2,z2⟩:=I.tuple q2
  obtain ⟨u1,e1,r1⟩:=v1.get g1
  obtain ⟨u2,e2,r2⟩:=v2.get g2
  refine ZipT.nextItem D hz hTI hTO h1 h2 (show s.heap.IsTuple l1 is1.toArray from pl1) (show s.heap.IsTuple l2 is2.toArray from pl2) (x:=u1) (y:=u2) (by simpa using e1) (by simpa using e2) fun h' a1 a2 a3 a4 a5 a6 hk=>?_
  refine ⟨_,rfl,wpAny_letOwnedTupleGo_zip (s:={ s with heap:=h' }) a1 fun h'' hz' hs'=>?_⟩
  have lt:∀ {c o},s.heap.get? c=some o->s.heap.objs.size≠c:=fun e=>Nat.ne_of_gt (Heap.lt_size e)
  have nz:s.heap.objs.size≠z:=lt hz
  have kk:∀ c u,c ∉ [z,TI,TO,i1,i2]->s.heap.get? c=some u->h''.get? c=some u:=fun c u m e=>by
   simp only [List.mem_cons,List.not_mem_nil,or_false,not_or] at m
   exact hs'.extBut _ _ m.1 (hk c u m.1 m.2.2.1 m.2.2.2.1 m.2.2.2.2 e)
  have fresh:=I.hok.fresh (Nat.le_refl s.heap.objs.size)
  have J:Zs X pins σ (Z3 H s.heap.objs.size (.tup [x,y])) { s with heap:=h'',toks:=s.toks }:=I.turnLay kk hf (Nat.le_refl _) ⟨by show 2<=sizeLine; decide,[u1,u2],.cons r1 (.cons r2 .nil),⟨_,hs'.extBut _ _ nz a5,rfl,⟨_,rfl⟩,rfl⟩⟩
  refine ⟨.ref s.heap.objs.size,_,J,rfl,⟨_,x,y,rfl,fresh,rfl,fun ws hw=>by rw [I.tuple_inj hw q1]; exact g1,fun ws hw=>by rw [I.tuple_inj hw q2]; exact g2⟩,⟨hz',hs'.extBut _ _ D.TIz (hk _ _ D.TIz D.TITO D.TIi1 D.TIi2 hTI),⟨_,_,hs'.extBut _ _ D.TOz a2⟩,ZipT.iterK a3 hs'.extBut D.i1z,ZipT.iterK a4 hs'.extBut D.i2z⟩,fun c hc=>?_⟩
  have nc:c≠s.heap.objs.size:=fun q=>by
   subst q
   simp only [List.mem_cons,List.not_mem_nil,or_false] at hc
   rcases hc with q | q | q | q | q
   ·exact lt hz q
   ·exact lt hTI q
   ·exact lt hTO q
   ·obtain ⟨_,e,_⟩:=h1; exact lt e q
   ·obtain ⟨_,e,_⟩:=h2; exact lt e q
  rw [Zk nc]
  exact (hf c hc).1
 done:=by
  intro X hP hw hK hc i pins s σ H E I hf st hg
  subst hP hw hK
  obtain ⟨xs,ys,q1,q2,g⟩:=hg
  obtain ⟨hz,hTI,⟨a,b,hTO⟩,h1,h2⟩:=st
  obtain ⟨is1,v1,pl1,z1⟩:=I.tuple q1
  obtain ⟨is2,v2,pl2,z2⟩:=I.tuple q2
  have hl1:=v1.length
  have hl2:=v2.length
  refine ZipT.nextEnd (I.ok.hd hc) D hz hTI hTO h1 h2 (show s.heap.IsTuple l1 is1.toArray from pl1) (show s.heap.IsTuple l2 is2.toArray from pl2) (by rcases g with g | g; exact .inl (by simp; omega); exact .inr (by simp; omega)) fun h' hk=>⟨rfl,I.turnL (t':=s.toks) (fp:=[z,TI,TO,i1,i2]) (fun c u m e=>?_) hf⟩
  simp only [List.mem_cons,List.not_mem_nil,or_false,not_or] at m
  exact hk c u m.1 m.2.2.1 m.2.2.2.1 m.2.2.2.2 e
 self:=fun A i s Q E st h=>wpAny_pyIter_zip st.1 h
def iZipT (K:W.Frag) (t:TA):TI:=fun σ H R=>t σ H fun vs H1=>∃ p q,vs=[.ref p,.ref q]/\(∃ xs,Z6 K H1 p xs)/\(∃ ys,Z6 K H1 q ys)/\R (Itzt K p q) H1
section
variable {X:Cx} {es:List Expr} {k:Nat} {p2 pos pos2:Pos} {a b:Expr} {t:TA}
theorem pi_zipT (hgz:Gl X "zip") (hmz:X.mg "zip" = none) (ha:PA X [a,b] t)
  (he2:starEach [a,b] X.env=(false,eval a X.env)::starEach [b] X.env:=by rfl) (hpl:(backTo pos2 (starEach [b] X.env)).any (·.1)=false:=by rfl) :
  PI X (.Tuple es k pos) (.Call (.Name "zip" p2) [a,b] [] pos2) (iZipT X.K t):=by
 intro pins s σ H R I h
 refine wpAny_Call_Name_kw (ld_blt I hgz hmz (by decide +kernel:bootBuiltins "zip" = some (.type "zip")) ?_ (by decide) (by decide))
 refine callWith_type1 (Y9 (ha pos2 pins s σ H _ I h) fun us s1 ⟨vs,H1,I1,r1,q1⟩=>?_) he2 hpl
 obtain ⟨l1,l2,rfl,⟨xs,hx⟩,⟨ys,hy⟩,q⟩:=q1
 obtain ⟨u1,u2,rfl,e1,e2⟩:=vals2 r1
 cases e1
 cases e2
 obtain ⟨is1,v1,pl1,z1⟩:=I1.tuple hx
 obtain ⟨is2,v2,pl2,z2⟩:=I1.tuple hy
 have n1:l1<s1.heap.objs.size:=by obtain ⟨_,e,_⟩:=(show s1.heap.IsTuple l1 is1.toArray from pl1); exact Heap.lt_size e
 have n2:l2<s1.heap.objs.size:=by obtain ⟨_,e,_⟩:=(show s1.heap.IsTuple l2 is2.toArray from pl2); exact Heap.lt_size e
 refine ZipT.call2 (show s1.heap.IsTuple l1 is1.toArray from pl1) (show s1.heap.IsTuple l2 is2.toArray from pl2) fun h2 b1 b2 b3 b4 b5 b6 k2=>?_
 refine wpAny_pyIter_zip (s:={ s1 with heap:=h2 }) b1 ?_
 have J:Zs X pins σ H1 { s1 with heap:=h2,toks:=s1.toks }:=I1.kept k2
 refine ⟨_,[s1.heap.objs.size+4,s1.heap.objs.size+2,s1.heap.objs.size+3,s1.heap.objs.size,s1.heap.objs.size+1],_,_,H1,rfl,J,turn_zipT _ _ _ _ _ l1 l2 (zipApart_new n1 n2),⟨b1,b2,⟨_,_,b3⟩,b4,b5⟩,fun c hc=>?_,q⟩
 have ge:s1.heap.objs.size<=c:=by
  simp only [List.mem_cons,List.not_mem_nil,or_false] at hc
  rcases hc with q | q | q | q | q <;> rw [q] <;> first | exact Nat.le_refl _ | exact Nat.le_add_right _ _
 exact I1.fpOk ge (I1.hok.fresh ge)
end
theorem comp_zipT {K:PySem.W.Frag} {l1 l2 D:Addr} {xs ys:List V} {g:TG} {tt:TT} {te:TE} {fin:Hp->Prop} {σ0:St} {H0:Hp} (Pv:Nat->List V->St->Hp->Prop) (h0:Pv 0 [] σ0 H0)
  (hq:∀ i zs σ H,i<=min xs.length ys.length->Pv i zs σ H->Z6 K H l1 xs/\Z6 K H l2 ys/\H D=some (.lst zs))
  (hs:∀ i x y p zs σ H,xs[i]?=some x->ys[i]?=some y->Pv i zs σ H->H p=none->g (.ref p) σ (Z3 H p (.tup [x,y])) fun σ2 H2=>tt σ2 H2 fun ok H3=>if ok=true then te σ2 H3 fun y H4=>H4 D=some (.lst zs)/\zs.length<sizeLine/\Pv (i+1) (zs++[y]) σ2 (Z3 H4 D (.lst (zs++[y]))) else Pv (i+1) zs σ2 H3)
  (hd:∀ zs σ H,Pv (min xs.length ys.length) zs σ H->fin H):∃ W:Nat->Nat->List V->St->Hp->Prop,(∃ m,W 0 m [] σ0 H0)/\CompW (Itzt K l1 l2) g tt te D W fin:=by
 refine ⟨fun i m zs σ H=>m=min xs.length ys.length - i/\i<=min xs.length ys.length/\Pv i zs σ H,⟨min xs.length ys.length,by simp,Nat.zero_le _,h0⟩, ?_⟩
 rintro i m zs σ H ⟨rfl,hi,p⟩
 obtain ⟨q1,q2,hD⟩:=hq i zs σ H hi p
 refine ⟨hD, ?_⟩
 by_cases hlt:i<min xs.length ys.length
 ·have c1:i<xs.length:=by omega
  have c2:i<ys.length:=by omega
  refine .inr ⟨⟨xs,ys,xs[i],ys[i],q1,q2,by simp [c1],by simp [c2]⟩,Pv (i+1),fun ys' σ' H' p'=>⟨min xs.length ys.length - (i+1),by omega,rfl,hlt,p'⟩,fun v H' y=>?_⟩
  obtain ⟨a,x,y',rfl,hn,rfl,y1,y2⟩:=y
  exact hs i x y' a zs σ H (y1 xs q1) (y2 ys q2) p hn
 ·have e:i=min xs.length ys.length:=by omega
  subst e
  exact .inl ⟨⟨xs,ys,q1,q2,by omega⟩,hd zs σ H p⟩
section
variable {X:Cx}
end
def ItnL (K:W.Frag) (a:Addr) (xs:List V):It :=
  ⟨fun i H=>i<xs.length/\Z0 K H a xs,
   fun i H v H'=>∃ p x,v=.ref p/\H p=none/\H'=Z3 H p (.tup [.int i,x])/\xs[i]?=some x,
   fun i H=>xs.length<=i/\Z0 K H a xs⟩
theorem turn_enumL {P:Program} {w:World} {K:W.Frag} {es:List Expr} {k:Nat} {pos:Pos} (e it a:Addr) (xs:List V) (hei:e≠it) (hae:a≠e) (hai:a≠it) :
  Turn P w K (.Tuple es k pos) (ItnL K a xs) [e,it] e (fun i h=>i<=xs.length/\(∃ old,IsEnum h e it ((i:Nat):Int) old)/\h.IsListIter it a i) where
 mem:=by simp
 obj:=fun i h st b hb=>by
  obtain ⟨_,⟨old,he⟩,⟨o,eo,_,d⟩⟩:=st
  simp only [List.mem_cons,List.not_mem_nil,or_false] at hb
  rcases hb with rfl | rfl
  ·exact ⟨_,he,fun v q=>nomatch q⟩
  ·exact ⟨_,eo,fun v q=>by rw [d] at q; cases q⟩
 keep:=fun i h h' st hk=>by
  obtain ⟨hi,⟨old,he⟩,ht⟩:=st
  exact ⟨hi,⟨old,hk e (by simp) _ he⟩,ht.at fun o eo=>hk it (by simp) o eo⟩
 item:=by
  intro X hP hw hK hc i pins s σ H E I hf st hg
  subst hP hw hK
  obtain ⟨hlt,hq⟩:=hg
  obtain ⟨hi,⟨old,he⟩,ht⟩:=st
  obtain ⟨its,rv,p,_⟩:=I.list hq
  have hx:xs[i]?=some xs[i]:=List.getElem?_eq_getElem hlt
  obtain ⟨u,hu,ru⟩:=rv.get hx
  have hsz:its.toArray.size=xs.length:=by rw [List.size_toArray]; exact rv.length.symm
  refine wpAny_pyNext_enum_itemD (Draws.list (A:=X.A.in1) (I.ok.hd hc) it a hai its.toArray) he ⟨ht,p.isList⟩ (by omega) hei (by simp only [List.mem_cons,List.not_mem_nil,or_false,not_or]; exact ⟨hei,fun q=>hae q.symm⟩) fun y h' tk py ho st' ht' hz' hk=>?_
  have ey:y=u:=by
   have z:its.toArray[i]?=some u:=by simpa using hu
   exact Option.some.inj (py.symm.trans z)
  subst ey
  refine ⟨_,rfl,wpAny_letOwnedTupleGo_enum (s:={ s with heap:=h',toks:=tk+1 }) ho fun h'' he'' hs''=>?_⟩
  have lt:∀ {c o},s.heap.get? c=some o->s.heap.objs.size≠c:=fun q=>Nat.ne_of_gt (Heap.lt_size q)
  have ne:s.heap.objs.size≠e:=lt he
  have kk:∀ c o,c ∉ [e,it]->s.heap.get? c=some o->h''.get? c=some o:=fun c o m q=>by
   simp only [List.mem_cons,List.not_mem_nil,or_false,not_or] at m
   exact hs''.extBut _ _ m.1 (hk c o m.1 m.2 q)
  have J:Zs X pins σ (Z3 H s.heap.objs.size (.tup [.int i,xs[i]])) { s with heap:=h'',toks:=tk+1 }:=I.turnLay kk hf (Nat.le_refl _) ⟨by show 2<=sizeLine; decide,[.int i tk,y],.cons ⟨tk,rfl⟩ (.cons ru .nil),⟨_,hs''.extBut _ _ ne ht',rfl,⟨_,rfl⟩,rfl⟩⟩
  refine ⟨.ref s.heap.objs.size,_,J,rfl,⟨_,_,rfl,I.hok.fresh (Nat.le_refl _),rfl,hx⟩,⟨by omega,⟨_,by have:=he''; simpa using this⟩,st'.1.extBut hs''.extBut (fun q=>hei q.symm)⟩,fun c hc=>?_⟩
  have nc:c≠s.heap.objs.size:=fun q=>by
   subst q
   simp only [List.mem_cons,List.not_mem_nil,or_false] at hc
   rcases hc with q | q
   ·exact lt he q
   ·obtain ⟨_,eo,_⟩:=ht; exact lt eo q
  rw [Zk nc]
  exact (hf c hc).1
 done:=by
  intro X hP hw hK hc i pins s σ H E I hf st hg
  subst hP hw hK
  obtain ⟨hge,hq⟩:=hg
  obtain ⟨hi,⟨old,he⟩,ht⟩:=st
  obtain ⟨its,rv,p,_⟩:=I.list hq
  have hsz:its.toArray.size=xs.length:=by rw [List.size_toArray]; exact rv.length.symm
  have ei:i=its.toArray.size:=by omega
  rw [ei] at ht
  refine wpAny_pyNext_enum_endD (Draws.list (A:=X.A.in1) (I.ok.hd hc) it a hai its.toArray) he ⟨ht,p.isList⟩ fun h' eb=>⟨rfl,I.turnL (t':=s.toks) (fp:=[e,it]) (fun c u m q=>?_) hf⟩
  simp only [List.mem_cons,List.not_mem_nil,or_false,not_or] at m
  exact eb c u m.2 q
 self:=fun A i s Q E st h=>by
  obtain ⟨_,⟨old,he⟩,_⟩:=st
  exact wpAny_pyIter_enum he h
def iEnumL (K:W.Frag) (t:TA):TI:=fun σ H R=>t σ H fun vs H1=>∃ p xs,vs=[.ref p]/\Z0 K H1 p xs/\R (ItnL K p xs) H1
section
variable {X:Cx} {es:List Expr} {k:Nat} {p2 pos pos2:Pos} {a:Expr} {t:TA}
theorem pi_enumL (hgz:Gl X "enumerate") (hmz:X.mg "enumerate" = none) (ha:PA X [a] t)
  (he2:starEach [a] X.env=(false,eval a X.env)::starEach [] X.env:=by rfl) (hpl:(backTo pos2 (starEach [] X.env)).any (·.1)=false:=by rfl) :
  PI X (.Tuple es k pos) (.Call (.Name "enumerate" p2) [a] [] pos2) (iEnumL X.K t):=by
 intro pins s σ H R I h
 refine wpAny_Call_Name_kw (ld_blt I hgz hmz (by decide +kernel:bootBuiltins "enumerate" = some (.type "enumerate")) ?_ (by decide) (by decide))
 refine callWith_type1 (Y9 (ha pos2 pins s σ H _ I h) fun us s1 ⟨vs,H1,I1,r1,q1⟩=>?_) he2 hpl
 obtain ⟨l,xs,rfl,hx,q⟩:=q1
 obtain ⟨u1,rfl,e1⟩:=vals1 r1
 cases e1
 obtain ⟨its,rv,pl,z⟩:=I1.list hx
 have nl:l<s1.heap.objs.size:=by obtain ⟨_,e,_⟩:=pl.isList; exact Heap.lt_size e
 refine call_enumerate_list pl.isList fun h2 b1 b2 _ k2=>?_
 refine wpAny_pyIter_enum (s:={ s1 with heap:=h2 }) b1 ?_
 have J:Zs X pins σ H1 { s1 with heap:=h2,toks:=s1.toks }:=I1.kept k2
 refine ⟨_,[s1.heap.objs.size+1,s1.heap.objs.size],_,_,H1,rfl,J,turn_enumL _ _ l xs (Nat.succ_ne_self _) (Nat.ne_of_lt (Nat.lt_succ_of_lt nl)) (Nat.ne_of_lt nl),⟨Nat.zero_le _,⟨_,b1⟩,b2⟩,fun c hc=>?_,q⟩
 have ge:s1.heap.objs.size<=c:=by
  simp only [List.mem_cons,List.not_mem_nil,or_false] at hc
  rcases hc with q | q <;> rw [q] <;> first | exact Nat.le_refl _ | exact Nat.le_add_right _ _
 exact I1.fpOk ge (I1.hok.fresh ge)
end
theorem for_enumL {K:PySem.W.Frag} {a:Addr} {xs:List V} {g:TG} {tb:TS} {D:Ends} {σ:St} {H:Hp} (Pv:Nat->St->Hp->Prop) (h0:Pv 0 σ H) (hl:∀ i σ H,i<=xs.length->Pv i σ H->Z0 K H a xs)
  (hs:∀ i x p σ H,xs[i]?=some x->Pv i σ H->H p=none->g (.ref p) σ (Z3 H p (.tup [.int i,x])) fun σ2 H2=>tb { D with nx:=Pv (i+1),ct:=Pv (i+1),bk:=D.nx } σ2 H2) (hd:∀ σ H,Pv xs.length σ H->D.nx σ H) :
  ∃ W:Nat->Nat->St->Hp->Prop,(∃ m,W 0 m σ H)/\∀ i m σ H,W i m σ H ->
   ((ItnL K a xs).stop i H/\D.nx σ H)\/((ItnL K a xs).go i H/\∃ N:St->Hp->Prop,(∀ σ' H',N σ' H'->∃ m',m'<m/\W (i+1) m' σ' H')/\∀ x H',(ItnL K a xs).yld i H x H'->g x σ H' fun σ2 H2=>tb { D with nx:=N,ct:=N,bk:=D.nx } σ2 H2):=by
 refine ⟨fun i m σ H=>m=xs.length - i/\i<=xs.length/\Pv i σ H,⟨xs.length,by simp,Nat.zero_le _,h0⟩, ?_⟩
 rintro i m σ H ⟨rfl,hi,p⟩
 have q:=hl i σ H hi p
 by_cases hlt:i<xs.length
 ·refine .inr ⟨⟨hlt,q⟩,Pv (i+1),fun σ' H' p'=>⟨xs.length - (i+1),by omega,rfl,hlt,p'⟩,fun x H' y=>?_⟩
  obtain ⟨r,z,rfl,hr,rfl,hz⟩:=y
  exact hs i z r σ H hz p hr
 ·have e:i=xs.length:=by omega
  subst e
  exact .inl ⟨⟨Nat.le_refl _,q⟩,hd σ H p⟩
mutual
def rpD:D->Str
 | .non=>Str.ofString "None"
 | .bl b=>if b=true then Str.ofString "True" else Str.ofString "False"
 | .int i=>Str.ofString (toString i)
 | .str x=>reprText x
 | .tup ds=>tupleText (rpDs ds)
 | .lst _=>Str.ofString "[]"
def rpDs:List D->List Str
 | []=>[]
 | d::ds=>rpD d::rpDs ds
end
mutual
def rpOk:D->Prop
 | .int i=>i.natAbs.log2<1920
 | .str x=>(reprText x).length<=sizeLine
 | .tup ds=>rpOks ds
 | .lst _=>False
 | _=>True
def rpOks:List D->Prop
 | []=>True
 | d::ds=>rpOk d/\rpOks ds
end
mutual
def lvD:D->Nat
 | .tup ds=>lvDs ds+1
 | _=>0
def lvDs:List D->Nat
 | []=>0
 | d::ds=>max (lvD d) (lvDs ds)
end
theorem raMore {P:Program} {w:World} {as as':List Addr} {h:Heap} {d d':Nat} (ha:∀ b∈as,b∈as') (hd:d<=d'):∀ {l:List Value} {ts:List Str},ReprAllK P w as h d l ts->ReprAllK P w as' h d' l ts
 | _,_,.nil=>.nil
 | _,_,.cons r t=>.cons ((r.more ha).level_le hd) (raMore ha hd t)
section
variable {X:Cx} {pins:List (Addr × Obj)} {σ:St} {H:Hp} {s:Shared}
mutual
theorem repr_at (I:Zs X pins σ H s):∀ (d:D) (v:V) (u:Value),Vu X.K H d v->Z2 v u->rpOk d->∃ as,ReprK X.prog X.w as s.heap (lvD d) u (rpD d)/\∀ b∈as,∃ e,Vu X.K H e (.ref b)/\lvD e<=lvD d
 | .non,v,u,h,r,_=>by
  cases (show v=.non from h)
  cases (show u=Value.none from r)
  exact ⟨[],.of_is .none _ _ _,fun b m=>absurd m List.not_mem_nil⟩
 | .bl b,v,u,h,r,_=>by
  cases (show v=.bl b from h)
  cases (show u=Value.bool b from r)
  exact ⟨[],.of_is (.bool b) _ _ _,fun b m=>absurd m List.not_mem_nil⟩
 | .int i,v,u,h,r,k=>by
  cases (show v=.int i from h)
  obtain ⟨t,rfl⟩:=(show ∃ t,u=Value.int i t from r)
  exact ⟨[],.of_is (.int t k) _ _ _,fun b m=>absurd m List.not_mem_nil⟩
 | .str x,v,u,h,r,k=>by
  cases (show v=.str x from h)
  obtain ⟨t,rfl⟩:=(show ∃ t,u=Value.str x t from r)
  exact ⟨[],.of_is (.str x t k) _ _ _,fun b m=>absurd m List.not_mem_nil⟩
 | .tup ds,v,u,h,r,k=>by
  obtain ⟨a,vs,rfl,q,ar⟩:=(show ∃ a vs,v=.ref a/\Z6 X.K H a vs/\Yd X.K H ds vs from h)
  cases (show u=Value.ref a from r)
  obtain ⟨its,rv,tp,_⟩:=I.tuple q
  obtain ⟨as,ra,ea⟩:=repr_ats I ds vs its ar rv k
  have na:a ∉ as:=fun m=>by
   obtain ⟨e,ie,le⟩:=ea a m
   have z:=Vu.inj I e (.tup ds) (.ref a) ie h
   rw [z] at le
   simp only [lvD] at le
   omega
  obtain ⟨o,n,ho,hc,hd⟩:∃ o n,s.heap.get? a=some o/\o.cls=.type "tuple" /\ o.data=.seq its.toArray n:=by
   obtain ⟨o,h1,h2,n,h3⟩:=tp
   exact ⟨o,n,h1,h2,h3⟩
  refine ⟨a::as, ?_,fun b m=>?_⟩
  ·simp only [lvD,rpD]
   exact ReprK.tuple ho hc hd na (by simpa using ra)
  ·rcases List.mem_cons.mp m with rfl | m
   ·exact ⟨_,h,Nat.le_refl _⟩
   ·obtain ⟨e,ie,le⟩:=ea b m
    exact ⟨e,ie,by simp only [lvD]; omega⟩
 | .lst _,_,_,_,_,k=>False.elim k
theorem repr_ats (I:Zs X pins σ H s):∀ (ds:List D) (vs:List V) (us:List Value),Yd X.K H ds vs->Z9 vs us->rpOks ds->∃ as,ReprAllK X.prog X.w as s.heap (lvDs ds) us (rpDs ds)/\∀ b∈as,∃ e,Vu X.K H e (.ref b)/\lvD e<=lvDs ds
 | [],vs,us,h,r,_=>by
  cases (show vs=[] from h)
  cases r
  exact ⟨[],.nil,fun b m=>absurd m List.not_mem_nil⟩
 | d::ds,vs,us,h,r,k=>by
  obtain ⟨v,vr,rfl,h1,h2⟩:=(show ∃ v r,vs=v::r/\Vu X.K H d v/\Yd X.K H ds r from h)
  cases r with
  | cons r1 r2 =>
   obtain ⟨as,a1,a2⟩:=repr_at I d v _ h1 r1 k.1
   obtain ⟨bs,b1,b2⟩:=repr_ats I ds vr _ h2 r2 k.2
   refine ⟨as++bs, ?_,fun b m=>?_⟩
   ·simp only [lvDs,rpDs]
    exact .cons ((a1.more fun b m=>List.mem_append_left _ m).level_le (Nat.le_max_left _ _)) (raMore (fun b m=>List.mem_append_right _ m) (Nat.le_max_right _ _) b1)
   ·simp only [lvDs]
    rcases List.mem_append.mp m with m | m
    ·obtain ⟨e,ie,le⟩:=a2 b m
     exact ⟨e,ie,Nat.le_trans le (Nat.le_max_left _ _)⟩
    ·obtain ⟨e,ie,le⟩:=b2 b m
     exact ⟨e,ie,Nat.le_trans le (Nat.le_max_right _ _)⟩
end
end
section
variable {X:Cx}
theorem call_reprD {k:Nat} (hr:Vr k X.A):CallR X (.builtin "repr") (fun xs H Q=>∃ (x:V) (ds:List D),xs=[x]/\Vu X.K H (.tup ds) x/\rpOks ds/\lvDs ds<=100/\(rpD (.tup ds)).length<=sizeLine/\Q (.str (rpD (.tup ds))) H):=by
 intro pins s σ H xs us Q I r h
 obtain ⟨x,ds,rfl,ix,k,lv,ln,q⟩:=h
 obtain ⟨a,vs,rfl,sq,ar⟩:=(show ∃ a vs,x=.ref a/\Z6 X.K H a vs/\Yd X.K H ds vs from ix)
 cases r with
 | cons r1 r2 =>
  cases r2
  cases (show _=Value.ref a from r1)
  obtain ⟨its,rv,tp,_⟩:=I.tuple sq
  obtain ⟨as,ra,ea⟩:=repr_ats I ds vs its ar rv k
  have na:a ∉ as:=fun m=>by
   obtain ⟨e,ie,le⟩:=ea a m
   have z:=Vu.inj I e (.tup ds) (.ref a) ie ix
   rw [z] at le
   simp only [lvD] at le
   omega
  obtain ⟨o,n,ho,hc,hd⟩:∃ o n,s.heap.get? a=some o/\o.cls=.type "tuple" /\ o.data=.seq its.toArray n:=by
   obtain ⟨o,h1,h2,n,h3⟩:=tp
   exact ⟨o,n,h1,h2,h3⟩
  have un:=hr.un
  refine call_repr_slot (by omega) ⟨o,ho,hc⟩ PySem.F.slot_tuple_repr ?_
  refine call_tuple_reprK ho hc hd na (by simpa using ra) (g:=[]) hr.gd (fun b _=>Clear.nil b) (by show X.A.units+1+_<_; omega) (fun _ _ e=>e) (fun h' u tk k'=>?_) ln
  exact ⟨_,u,rfl,.str _,H,I.kept k',⟨u,rfl⟩,q⟩
end
def lamP (x:Str) (p0:Pos):Arguments:={ posonlyargs:=[],args:=[{ arg:=x,annotation:=none,pos:=p0:PySem.Arg }],vararg:=none,kwonlyargs:=[],kw_defaults:=[],kwarg:=none,defaults:=[]:PySem.Arguments }
def lamB (x:Str) (p1 p2 p3:Pos):Expr:=.Subscript (.Name x p1) (.Constant (.int 0) 0 p2) p3
def lamS (x:Str):Scope:={ kind:=.function,names:=[(x,.local)],isGenerator:=false,isCoroutine:=false,more:=[]:PySem.Scope }
theorem lam_call {P:Program} {w:World} {A:Around} {E:Value->Shared->Prop} {s:Shared} {f c' t:Addr} {name qual:Str} {pm ctv:Value} {p0 p1 p2 p3:Pos} {its:List Value} {k:Int} {tk:Tok} {Q:Value->Shared->Prop}
  (hd:A.depth<recursionLimit) (hf:s.heap.get? f=some (W.kla_obj name qual (lamP "pair" p0) (lamB "pair" p1 p2 p3) (lamS "pair") [] pm c' ctv)) (hc:s.heap.CodeRec (.ref c') qual) (lim:s.heap.NoLimit)
  (ht:IsTup s.heap t (.int k tk::its).toArray) (hz:its.length+1<=sizeLine)
  (h:∀ (h':Heap) (tk':Nat) (t':Tok),(∀ b o,s.heap.get? b=some o->h'.get? b=some o)->Q (.int k t') { s with heap:=h',toks:=tk' }) :
  wpAny (model P w) A (call (.ref f) [.ref t]) Q E s:=by
 refine wpAny_call ?_
 have hb:bindArgs (W.kla_fn name qual (lamP "pair" p0) (lamB "pair" p1 p2 p3) (lamS "pair") [] pm (.ref c') ctv) ⟨[.ref t],[]⟩=pure [(Str.ofString "pair",Value.ref t)]:=by rfl
 refine W.kla_callFunE hd hf rfl rfl rfl rfl hc ?_
 rw [hb]
 refine wpAny_pure ?_
 refine wpAny_newFunctionEnv_cells rfl (fun x hx=>.inl ?_) fun env he s1 x=>?_
 ·have e:x=(Str.ofString "pair",Value.ref t):=by simpa using hx
  subst e
  rfl
 subst he
 refine ⟨lim.keeps x.toInCall.keep,W.kla_codeExpr ?_⟩
 obtain ⟨h1,tk1,rfl⟩:=x.toInCall.same
 have kp:=x.toInCall.keep
 refine Subscript_ (wpAny_Name (wpAny_loadName_local rfl rfl x.toInCall.ns rfl ?_) (by decide))
 refine wpAny_Constant_int ?_
 have ht1:IsTup h1 t (.int k tk::its).toArray:=let ⟨o,e1,e2,e3⟩:=ht; ⟨o,kp _ _ e1,e2,e3⟩
 refine subscriptTail_builtinR (x:=.int k tk) (show Shared.TypeIs _ (.ref t) "tuple" from let ⟨o,e1,e2,_⟩:=ht1; ⟨o,e1,e2⟩) slot_tuple_getitem.lookup
  (getItem_tuple (j:=0) (Q:=fun r s'=>r=.int k tk/\_) ht1 (by decide) (by decide) ?_ (by simp) ⟨rfl, ?_⟩) rfl
 ·rw [List.size_toArray]; exact seqIndex_of (by decide) (by rw [List.length_cons]; omega)
 ·exact h h1 _ tk kp
def CodeHO (c:Addr) (q:Str):HO:=.ext fun h=>h.CodeRec (.ref c) q
def TabOk (H:Hp) (lp:Pos) (q:Str) (ps:Array Value):Prop:=TriplesOk ps.toList/\(codeAmong lp ps.toList=none\/∃ c',codeAmong lp ps.toList=some (.ref c')/\H c'=some (CodeHO c' q))
def SmT (P:Addr) (H H':Hp):Prop:=∀ a o,a≠P->H a=some o->H' a=some o
theorem triples_more {lp:Pos} {a b:Int} {ta tb:Tok} {c:Value}:∀ {l:List Value},TriplesOk l->TriplesOk (l++[.int a ta,.int b tb,c])
 | [],_=>True.intro
 | [_],h=>by cases (show False by simpa [TriplesOk] using h)
 | [_,_],h=>by cases (show False by simpa [TriplesOk] using h)
 | x::y::z::r,h=>by
  cases x <;> cases y <;> first | exact (show False by simpa [TriplesOk] using h).elim | exact triples_more (lp:=lp) (l:=r) h
theorem among_more {lp:Pos} {ta tb:Tok} {c:Value}:∀ {l:List Value},TriplesOk l->codeAmong lp l=none->codeAmong lp (l++[.int lp.line ta,.int lp.col tb,c])=some c
  | [],_,_=>by simp [codeAmong]
  | [_],h,_=>by cases (show False by simpa [TriplesOk] using h)
  | [_,_],h,_=>by cases (show False by simpa [TriplesOk] using h)
  | x::y::z::r,h,e=>by
    cases x <;> cases y <;> first
      | exact (show False by simpa [TriplesOk] using h).elim
      | (rename_i i ti j tj
         have e':(if (i == (lp.line:Int) && j == (lp.col:Int))=true then some z else codeAmong lp r)=none:=e
         show (if (i == (lp.line:Int) && j == (lp.col:Int))=true then some z else codeAmong lp (r++[.int lp.line ta,.int lp.col tb,c]))=some c
         by_cases q:(i == (lp.line:Int) && j == (lp.col:Int))=true
         · rw [if_pos q] at e'; cases e'
         · rw [if_neg q] at e' ⊢
           exact among_more (l:=r) h e')
structure LamAt (X:Cx) (P:Addr):Prop where
 c:∃ c,X.env.code=.ref c/\∀ h,X.K.In h->W.CodeHd h c P
 bi:∀ h,X.K.In h->h.BuiltinsAt X.mg P
 ne:mainGlobals≠P
section
variable {X:Cx} {pins:List (Addr × Obj)} {σ:St} {H:Hp} {s:Shared}
theorem ns_keep {h h':Heap} {L:Addr} {m:Str->Option Value} (n:h.Ns L m) (k:∀ o,h.get? L=some o->h'.get? L=some o):h'.Ns L m :=
 let ⟨o,es,ep,e,r⟩:=n
 ⟨o,es,ep,k o e,r⟩
theorem CodeHO.ok {P:Program} {w:World} {H':Hp} {h:Heap} {c:Addr} {q:Str} (k:h.CodeRec (.ref c) q):Yu P w H' h c (CodeHO c q):=by
 refine ⟨k, ?_,fun h1 h2 k1 e=>?_⟩
 ·obtain ⟨c1,o,vs,t,e,ho,_⟩:=k
  cases e
  exact ⟨o,ho⟩
 ·obtain ⟨c1,o,vs,t,ec,ho,r⟩:=k1
  cases ec
  exact ⟨c,o,vs,t,rfl,e o ho,r⟩
theorem CodeHO.code {P:Program} {w:World} {H':Hp} {h:Heap} {c:Addr} {q:Str} (x:HOk P w H' h) (e:H' c=some (CodeHO c q)):h.CodeRec (.ref c) q:=(x c _ e).1
theorem lam_make {P:Addr} {ps:Array Value} {lp:Pos} {params:Arguments} {body:Expr} {x:Str} {A:Around} {E:Value->Shared->Prop} {Q:Value->Shared->Prop} (L:LamAt X P) (hcl:closureFor (lamS x) X.env=pure []) (hdf:defaultsOf params X.env=([],[]))
  (I:Zs X pins σ H s) (hP:H P=some (.tbl ps)) (ok:TabOk H lp (X.env.qual++Str.ofString "<lambda>") ps)
  (h:∀ (f c':Addr) (pm ctv:Value) (s':Shared) (H':Hp) (ps':Array Value),Zs X pins σ H' s'->SmT P H H'->H' P=some (.tbl ps')->TabOk H' lp (X.env.qual++Str.ofString "<lambda>") ps' ->
   s'.heap.get? f=some (W.kla_obj (Str.ofString "<lambda>") (X.env.qual++Str.ofString "<lambda>") params body (lamS x) [] pm c' ctv)->H' c'=some (CodeHO c' (X.env.qual++Str.ofString "<lambda>"))->H' f=none->Q (.ref f) s') :
  wpAny (model X.prog X.w) A (eval (.Lambda params body (lamS x) lp) X.env) Q E s:=by
 obtain ⟨c,hc,hd⟩:=L.c
 have KX:=I.kIn
 have gl:s.heap.Ns mainGlobals X.mg:=ns_keep I.mod.glob fun o e=>I.bk _ _ e
 have tP:s.heap.get? P=some (W.tabObj ps):=I.hok P _ hP
 refine W.kla_eval hdf ?_
 obtain ⟨tr,am⟩:=ok
 rcases am with am | ⟨c0,am,hc0⟩
 ·refine W.kla_makeFunction hcl I.ok.glob gl hc (hd _ KX) tP tr am L.ne (L.bi _ KX) fun c' ctv h' tk ext lo hi rec tab=>?_
  have fc:H c'=none:=I.hok.fresh lo
  have nP:c'≠P:=fun z=>by rw [z,hP] at fc; cases fc
  have kp:∀ b o,b≠P->s.heap.get? b=some o->(h'.push (W.kla_obj (Str.ofString "<lambda>") (X.env.qual++Str.ofString "<lambda>") params body (lamS x) [] ((X.mg (Str.ofString "__name__")).getD Value.none) c' ctv)).get? b=some o :=
   fun b o nb e=>Heap.get?_push_of_some _ (ext b o nb e)
  have nb:∀ {b:Addr},H b=none->b≠P:=fun {b} e z=>by rw [z,hP] at e; cases e
  have H'e:∀ b,b≠c'->b≠P->Z3 (Z3 H P (.tbl (ps++#[rawInt lp.line,rawInt lp.col,.ref c']))) c' (CodeHO c' (X.env.qual++Str.ofString "<lambda>")) b=H b:=fun b n1 n2=>by rw [Zk n1,Zk n2]
  have nc:∀ {b:Addr} {u:HO},H b=some u->b≠c':=fun {b u} e z=>by rw [z,fc] at e; cases e
  have I':=I.step (h':=h'.push (W.kla_obj (Str.ofString "<lambda>") (X.env.qual++Str.ofString "<lambda>") params body (lamS x) [] ((X.mg (Str.ofString "__name__")).getD Value.none) c' ctv)) (g':=s.gens) (d':=s.drawn) (t':=tk) (ch:=[])
   (H':=Z3 (Z3 H P (.tbl (ps++#[rawInt lp.line,rawInt lp.col,.ref c']))) c' (CodeHO c' (X.env.qual++Str.ofString "<lambda>"))) (fun _ z=>nomatch z)
   (fun b o _ _ _ e n=>kp b o (nb n) e) (fun b o _ _ _ e n=>⟨o.slots,kp b o (nb n) e⟩) (fun b o _ e n=>?_) (fun b o _ e=>?_) (fun b xs e=>?_) (fun b o u e=>?_) (fun b qs e=>?_) (fun m hm=>ns_keep hm fun o e=>kp _ o (nb I.free) e) (fun b u e=>?_) I.bare
  ·refine h h'.objs.size c' _ ctv _ _ (ps++#[rawInt lp.line,rawInt lp.col,.ref c']) I' (fun a o na e=>?_) (by rw [Zk nP.symm,Zz]) ⟨?_,.inr ⟨c', ?_,Zz⟩⟩ (Heap.get?_push_size _ rfl) Zz ?_
   ·rw [H'e a (nc e) na]; exact e
   ·rw [Array.toList_append]; exact triples_more (lp:=lp) tr
   ·rw [Array.toList_append]; exact among_more tr am
   ·rw [H'e _ (Nat.ne_of_gt hi) (Nat.ne_of_gt (Heap.lt_size tab))]; exact I.hok.fresh (Nat.le_of_lt (Nat.lt_of_le_of_lt lo hi))
  ·have e1:=Heap.lt_size e
   rw [H'e b (fun z=>by rw [z] at e1; exact absurd (Nat.lt_of_lt_of_le e1 lo) (Nat.lt_irrefl _)) (nb n)]; exact n
  ·by_cases z:b=P
   ·exact ⟨_,by rw [z]; exact Heap.get?_push_of_some _ tab⟩
   ·exact ⟨o,kp b o z e⟩
  ·rw [H'e b (nc e) (fun z=>by rw [z,hP] at e; cases e)]; exact e
  ·rw [H'e b (nc e) (fun z=>by rw [z,hP] at e; cases e)]; exact e
  ·by_cases z:b=P
   ·rw [z,hP] at e; cases e
    exact ⟨_,by rw [z,Zk nP.symm,Zz]⟩
   ·exact ⟨#[],by rw [H'e b (nc e) z,e]; simp⟩
  ·by_cases z:b=c'
   ·subst z
    rw [Zz] at e; cases e
    obtain ⟨c1,o,vs,t,ec,ho,r⟩:=rec
    cases ec
    exact CodeHO.ok ⟨b,o,vs,t,rfl,Heap.get?_push_of_some _ ho,r⟩
   ·by_cases y:b=P
    ·subst y
     rw [Zk nP.symm,Zz] at e; cases e
     exact Heap.get?_push_of_some _ tab
    ·rw [H'e b z y] at e
     refine (I.hok b u e).stay (fun d v hd q=>kp d v ?_ q) (fun d q=>?_) fun d xs q=>?_
     ·rcases hd with rfl | hd
      ·exact y
      ·intro zz; rw [zz,hP] at hd; cases hd
     ·rw [H'e d (nc q) (fun zz=>by rw [zz,hP] at q; cases q)]; exact q
     ·rw [H'e d (nc q) (fun zz=>by rw [zz,hP] at q; cases q)]; exact q
 ·refine W.kla_makeFunctionHit hcl I.ok.glob gl hc (hd _ KX) tP tr am (L.bi _ KX) fun ctv h' tk kp lo=>?_
  have kp':∀ b o,s.heap.get? b=some o->(h'.push (W.kla_obj (Str.ofString "<lambda>") (X.env.qual++Str.ofString "<lambda>") params body (lamS x) [] ((X.mg (Str.ofString "__name__")).getD Value.none) c0 ctv)).get? b=some o :=
   fun b o e=>Heap.get?_push_of_some _ (kp b o e)
  exact h h'.objs.size c0 _ ctv _ H ps (I.kept kp') (fun _ _ _ e=>e) hP ⟨tr,.inr ⟨c0,am,hc0⟩⟩ (Heap.get?_push_size _ rfl) hc0 (I.hok.fresh lo)
end
def lowH (h:Heap) (L:Addr):Heap:={ h with objs:=h.objs.extract 0 L }
theorem lowH_at {h:Heap} {L b:Nat}:(lowH h L).objs[b]?=if b<L then h.objs[b]? else none:=by
 show (h.objs.extract 0 L)[b]?=_
 rw [Array.getElem?_extract]
 simp only [Nat.zero_add,Nat.sub_zero]
 by_cases hb:b<L
 ·rw [if_pos hb]
  by_cases hc:b<h.objs.size
  ·rw [if_pos (by omega)]
  ·rw [if_neg (by omega),Array.getElem?_eq_none (by omega)]
 ·rw [if_neg hb,if_neg (by omega)]
theorem lowH_get {h:Heap} {L b:Addr} {o:Obj} (e:h.get? b=some o) (hb:b<L):(lowH h L).get? b=some o:=by
 unfold Heap.get? at e ⊢
 rw [lowH_at,if_pos hb]
 exact e
theorem lowH_of {h:Heap} {L b:Addr} {o:Obj} (e:(lowH h L).get? b=some o):h.get? b=some o/\b<L:=by
 unfold Heap.get? at e
 rw [lowH_at] at e
 by_cases hb:b<L
 ·rw [if_pos hb] at e
  exact ⟨e,hb⟩
 ·rw [if_neg hb] at e; cases e
def newsH (h:Heap) (L:Addr):List (Addr × Obj):=(List.range h.objs.size).filterMap fun b=>if b<=L then none else (h.get? b).map fun o=>(b,o)
theorem newsH_mem {h:Heap} {L b:Addr} {o:Obj}:(b,o)∈newsH h L ↔ L<b/\h.get? b=some o:=by
 unfold newsH
 rw [List.mem_filterMap]
 constructor
 ·rintro ⟨x,hx,e⟩
  by_cases z:x<=L
  ·rw [if_pos z] at e; cases e
  ·rw [if_neg z] at e
   obtain ⟨o',e1,e2⟩:=Option.map_eq_some_iff.mp e
   cases e2
   exact ⟨Nat.lt_of_not_le z,e1⟩
 ·rintro ⟨hb,e⟩
  refine ⟨b,List.mem_range.mpr (Heap.lt_size e), ?_⟩
  rw [if_neg (Nat.not_le.mpr hb),e]; rfl
theorem Yu.has {P:Program} {w:World} {H:Hp} {h:Heap} {a:Addr} {o:HO} (x:Yu P w H h a o):∃ u,h.get? a=some u:=by
 cases o with
 | lst xs=>obtain ⟨_,_,_,_,e⟩:=x; exact ⟨_,e⟩
 | tup xs=>obtain ⟨_,_,_,o,e,_⟩:=x; exact ⟨_,e⟩
 | dK kvs=>obtain ⟨_,_,_,_,o,_,_,e,_⟩:=x; exact ⟨_,e⟩
 | dT kvs=>obtain ⟨_,_,_,_,o,_,_,e,_⟩:=x; exact ⟨_,e⟩
 | set S n=>obtain ⟨o,_,_,_,e,_⟩:=x; exact ⟨_,e⟩
 | ins C dx fs=>obtain ⟨_,_,_,e,_⟩:=x; exact ⟨_,e⟩
 | own y=>exact x
 | xd fs=>obtain ⟨_,⟨_,_,_,e,_⟩,_⟩:=x; exact ⟨_,e⟩
 | rng lo hi=>obtain ⟨_,_,_,e⟩:=x; exact ⟨_,e⟩
 | frz ob u=>obtain ⟨e,_⟩:=x; exact ⟨_,e⟩
 | tbl ps=>exact ⟨_,(show h.get? a=some _ from x)⟩
 | met f y=>exact ⟨_,(show h.get? a=some _ from x)⟩
 | ext φ=>obtain ⟨_,e,_⟩:=x; exact e
theorem keepAll {h h':Heap} {L:Addr} {m:Str->Option Value} {own:List (Addr × Obj)} (f:Fr (lowH h L) L h' m) (n:News (lowH h L) L h' own) (hs:∀ p∈newsH h L,p∈own):∀ b o,b≠L->h.get? b=some o->h'.get? b=some o:=fun b o nb e=>by
 rcases Nat.lt_trichotomy b L with z | z | z
 ·exact f.keep b o (lowH_get e z)
 ·exact absurd z nb
 ·exact (n (b,o) (hs _ (newsH_mem.mpr ⟨z,e⟩))).1
theorem zip_paired:∀ {kz:List Int} {xs:List V} {vs:List Value},Z9 xs vs->Paired (fun (p:Int × V) (q:Int × Value)=>p.1=q.1/\Z2 p.2 q.2) (kz.zip xs) (kz.zip vs)
 | [],_,_,_=>.nil
 | _::_,[],_,.nil=>.nil
 | k::kz,_,_,.cons r t=>.cons ⟨rfl,r⟩ (zip_paired t)
theorem vals_snd:∀ {qs:List (Int × V)} {ps:List (Int × Value)},Paired (fun (p:Int × V) (q:Int × Value)=>p.1=q.1/\Z2 p.2 q.2) qs ps->Z9 (qs.map (·.2)) (ps.map (·.2))
 | _,_,.nil=>.nil
 | _,_,.cons r t=>.cons r.2 (vals_snd t)
theorem fst_eq:∀ {qs:List (Int × V)} {ps:List (Int × Value)},Paired (fun (p:Int × V) (q:Int × Value)=>p.1=q.1/\Z2 p.2 q.2) qs ps->qs.map (·.1)=ps.map (·.1)
 | _,_,.nil=>rfl
 | _,_,.cons r t=>by rw [List.map_cons,List.map_cons,r.1,fst_eq t]
def Keyd (K:W.Frag) (H:Hp) (xs:List V) (kz:List Int):Prop:=kz.length=xs.length/\∀ (i:Nat) (x:V) (k:Int),xs[i]?=some x->kz[i]?=some k->∃ t ys,x=.ref t/\Z6 K H t (.int k::ys)
def tSortKey (K:W.Frag) (P:Addr) (lp:Pos) (q:Str) (te:TA):TE:=fun σ H Q=>te σ H fun vs H1=>∃ (l:Addr) (xs:List V) (kz:List Int) (ps:Array Value),vs=[V.ref l]/\Z0 K H1 l xs/\xs.length<64/\H1 P=some (.tbl ps)/\TabOk H1 lp q ps/\Keyd K H1 xs kz /\
 ∀ (D:Addr) (ps':Array Value) (qs:List (Int × V)) (H2:Hp),SmT P H1 H2->H2 P=some (.tbl ps')->TabOk H2 lp q ps'->H1 D=none->H2 D=some (.lst (qs.map (·.2)))->qs.Perm (kz.zip xs)->qs.Pairwise (fun a b=>a.1<=b.1)->Q (.ref D) H2
section
variable {X:Cx} {e:Expr} {te:TA} {p pos lp kp p0 p1 p2 p3:Pos}
theorem pe_sortKey {k:Nat} {P:Addr} (hr:Vr k X.A) (L:LamAt X P) (hg:Gl X "sorted") (hm:X.mg "sorted" = none) (ha:PA X [e] te) (hcl:closureFor (lamS "pair") X.env=pure [])
  (hdf:defaultsOf (lamP "pair" p0) X.env=([],[]):=by rfl)
  (he:backTo pos (starEach [e] X.env)=(false,eval e X.env)::backTo pos (starEach [] X.env):=by rfl) (he2:((backTo pos (starEach [e] X.env)).any fun x=>x.fst)=false:=by rfl) :
  PE X (.Call (.Name "sorted" p) [e] [{ arg:=some "key",value:=.Lambda (lamP "pair" p0) (lamB "pair" p1 p2 p3) (lamS "pair") lp,pos:=kp:Keyword }] pos) (tSortKey X.K P lp (X.env.qual++Str.ofString "<lambda>") te):=by
 intro pins s σ H Q I h
 refine wpAny_Call_Name_kw (ld_blt I hg hm (by rfl) ?_ (by decide) (by decide))
 refine callWith_kw (Y9 (ha pos pins s σ H _ I h) fun us s1 ⟨vs,H1,I1,r1,q1⟩=>?_) he he2
 obtain ⟨l,xs,kz,ps,rfl,hl,h64,hP,ok,⟨hkl,hky⟩,fin⟩:=q1
 cases r1 with
 | cons r1 r2 =>
 cases r2
 cases (show _=Value.ref l from r1)
 refine wpAny_evalAll_cons (wpAny_bind (lam_make (x:="pair") L hcl hdf I1 hP ok fun f c' pm ctv s2 H2 ps' I2 sm hP2 ok2 hf hc2 nf=>wpAny_bind (wpAny_standAt (wpAny_pure (wpAny_evalAll_nil ?_)))))
 show wpAny (model X.prog X.w) X.A (call (.builtin "sorted") [.ref l] [(Str.ofString "key",.ref f)]) _ _ s2
 have hl2:Z0 X.K H2 l xs:=by
  rcases hl with (hl | ⟨o,hl⟩) | hl
  ·exact .inl (.inl (sm _ _ (fun z=>by rw [z,hP] at hl; cases hl) hl))
  ·exact .inl (.inr ⟨o,sm _ _ (fun z=>by rw [z,hP] at hl; cases hl) hl⟩)
  ·exact .inr hl
 have ht2:∀ {t:Addr} {ys:List V},Z6 X.K H1 t ys->Z6 X.K H2 t ys:=fun {t ys} q=>by
  rcases q with (q | ⟨o,q⟩) | q
  ·exact .inl (.inl (sm _ _ (fun z=>by rw [z,hP] at q; cases q) q))
  ·exact .inl (.inr ⟨o,sm _ _ (fun z=>by rw [z,hP] at q; cases q) q⟩)
  ·exact .inr q
 obtain ⟨its,rv,pl,hz⟩:=I2.list hl2
 obtain ⟨m,hn,_⟩:=id I2.loc
 have hLs:X.env.locals<s2.heap.objs.size:=hn.lt
 have lsz:(lowH s2.heap X.env.locals).objs.size<=X.env.locals:=by
  show (s2.heap.objs.extract 0 X.env.locals).size<=_
  rw [Array.size_extract]; omega
 have fr:Fr (lowH s2.heap X.env.locals) X.env.locals s2.heap m:=⟨hn,fun b o e=>(lowH_of e).1,lsz⟩
 have nw:News (lowH s2.heap X.env.locals) X.env.locals s2.heap (newsH s2.heap X.env.locals):=fun p hp=>by
  obtain ⟨b,o⟩:=p
  obtain ⟨h1,h2⟩:=newsH_mem.mp hp
  refine ⟨h2,Nat.ne_of_gt h1, ?_⟩
  cases z:(lowH s2.heap X.env.locals).get? b with
  | none=>rfl
  | some o'=>exact absurd (lowH_of z).2 (Nat.lt_asymm h1)
 have xl:its.length=xs.length:=rv.length.symm
 refine ksk_sorted (b:=false) (vs:=its) (kz:=kz) (f:=.ref f) fr nw pl.isList (by rw [hkl,xl]) (by rw [xl]; exact h64) (ksk_s1 _ _) (fun _=>ksk_l1 _ _) (fun a=>ksk_t1 f a) (fun i v kk hv hk h' tk own f' n'=>?_) fun D h' tk out c f' n' hD ko=>?_
 ·have ka:=keepAll f' n' fun q hq=>List.mem_append_left _ hq
  obtain ⟨x,hx,rx⟩:∃ x,xs[i]?=some x/\Z2 x v:=by
   have hi:i<xs.length:=by rw [<-xl]; exact (List.getElem?_eq_some_iff.mp hv).1
   obtain ⟨u,hu,ru⟩:=rv.get (List.getElem?_eq_getElem hi)
   rw [hv] at hu; cases hu
   exact ⟨_,List.getElem?_eq_getElem hi,ru⟩
  obtain ⟨t,ys,rfl,sq⟩:=hky i x kk hx hk
  cases (show v=Value.ref t from rx)
  obtain ⟨jts,jr,tp,jz⟩:=I2.tuple (ht2 sq)
  cases jr with
  | cons j1 j2 =>
   obtain ⟨tt,rfl⟩:=(show ∃ tt,_=Value.int kk tt from j1)
   have nt:t≠X.env.locals:=fun z=>by
    obtain ⟨o,e1,e2,n,e3⟩:=tp
    obtain ⟨o2,es,ep,e4,e5,e6,_⟩:=hn
    rw [z,e4] at e1; cases e1
    rw [e5] at e3; cases e3
   have nfL:f≠X.env.locals:=fun z=>by
    obtain ⟨o2,es,ep,e4,e5,e6,_⟩:=hn
    rw [z,e4] at hf; cases hf
    cases e5
   have ncL:c'≠X.env.locals:=fun z=>by rw [z,I2.free] at hc2; cases hc2
   have tp':IsTup h' t _:=let ⟨o,e1,e2,e3⟩:=tp; ⟨o,ka _ _ nt e1,e2,e3⟩
   refine lam_call (s:={ heap:=h',gens:=s2.gens,drawn:=s2.drawn,toks:=tk,os:=s2.os }) hr.depth (ka _ _ nfL hf) ?_ ?_ tp' (by have:=j2.length; rw [List.length_cons] at jz; omega) fun h2 tk2 t2 kp=>?_
   ·obtain ⟨c1,o,vs,t,ec,ho,rr⟩:=CodeHO.code I2.hok hc2
    cases ec
    exact ⟨c',o,vs,t,rfl,ka _ _ ncL ho,rr⟩
   ·refine I2.ok.mod.nolimit.keeps fun b o e=>f'.keep b o (lowH_get (I2.bk b o e) ?_)
    exact Nat.lt_of_lt_of_le (Heap.lt_size e) (Nat.le_trans I2.ok.bsz I2.ok.above)
   ·exact KskEnd.intro ⟨ns_keep f'.ns fun o e=>kp _ _ e,fun b o e=>kp _ _ (f'.keep b o e),f'.above⟩ (fun q hq=>let ⟨a1,a2,a3⟩:=n' q hq; ⟨kp _ _ a1,a2,a3⟩) (fun q hq=>hq)
 ·have ka:=keepAll f' n' fun q hq=>List.mem_cons_of_mem _ hq
  obtain ⟨eD,nDL,lD⟩:=n' (D,seqObj "list" out c) List.mem_cons_self
  have nD:s2.heap.get? D=none:=by
   cases eo:s2.heap.get? D with
   | none=>rfl
   | some o =>
    exfalso
    rcases Nat.lt_trichotomy D X.env.locals with y | y | y
    ·rw [lowH_get eo y] at lD; cases lD
    ·exact nDL y
    ·exact absurd (hD (D,o) (newsH_mem.mpr ⟨y,eo⟩)) (Nat.lt_irrefl _)
  have fD:H2 D=none:=by
   cases eo:H2 D with
   | none=>rfl
   | some u =>
    obtain ⟨o,e⟩:=(I2.hok D u eo).has
    rw [e] at nD; cases nD
  obtain ⟨ps2,pm2,eo,pw⟩:=ko
  obtain ⟨qs,pq,qp⟩:=SetM.paired_perm pm2 (zip_paired (kz:=kz) rv)
  have ne:∀ {b:Addr} {o:Obj},s2.heap.get? b=some o->b≠D:=fun {b o} e z=>by rw [z,nD] at e; cases e
  have neH:∀ {b:Addr} {u:HO},H2 b=some u->b≠D:=fun {b u} e z=>by rw [z,fD] at e; cases e
  have I3:=I2.step (h':=h') (g':=s2.gens) (d':=s2.drawn) (t':=tk) (ch:=[]) (H':=Z3 H2 D (.lst (qs.map (·.2)))) (fun _ z=>nomatch z)
   (fun b o nl _ _ e _=>ka b o nl e) (fun b o nl _ _ e _=>⟨o.slots,ka b o nl e⟩) (fun b o _ e n=>by rw [Zk (ne e)]; exact n) (fun b o _ e=>?_) (fun b xs e=>by rw [Zk (neH e)]; exact e) (fun b o u e=>by rw [Zk (neH e)]; exact e) (fun b qs e=>⟨#[],by rw [Zk (neH e),e]; simp⟩) (fun m' hm=>?_) (fun b u e=>?_) I2.bare
  ·refine ⟨.ref D,_,I3,rfl,fin D ps' qs _ (fun a o na e=>?_) (by rw [Zk (neH hP2)]; exact hP2) ⟨ok2.1,ok2.2.imp id fun ⟨c1,e1,e2⟩=>⟨c1,e1,by rw [Zk (neH e2)]; exact e2⟩⟩ ?_ Zz qp ?_⟩
   ·have:=sm a o na e
    rw [Zk (neH this)]; exact this
   ·cases z:H1 D with
    | none=>rfl
    | some u =>
     exact absurd (sm D u (fun y=>by rw [y,hP2] at fD; cases fD) z) (by rw [fD]; exact fun z=>nomatch z)
   ·have e1:=fst_eq pq
    have:(ps2.map (·.1)).Pairwise (·<=·):=List.pairwise_map.mpr (pw.imp fun q=>by simpa using q)
    rw [<-e1] at this
    exact List.pairwise_map.mp this
  ·by_cases z:b=X.env.locals
   ·obtain ⟨o2,_,_,e2,_⟩:=f'.ns
    exact ⟨o2,by rw [z]; exact e2⟩
   ·exact ⟨o,ka b o z e⟩
  ·have em:m'=m:=by
    obtain ⟨o2,es,ep,e2,d2,_,r2⟩:=hm
    obtain ⟨o3,es3,ep3,e3,d3,_,r3⟩:=hn
    rw [e2] at e3; cases e3
    rw [d2] at d3; cases d3
    exact funext fun x=>(r2 x).symm.trans (r3 x)
   rw [em]
   exact f'.ns
  ·by_cases z:b=D
   ·subst z
    rw [Zz] at e; cases e
    refine ⟨?_,out.toList,c, ?_, ?_⟩
    ·rw [List.length_map,qp.length_eq,List.length_zip]
     have:=hz; omega
    ·rw [eo]; exact vals_snd pq
    ·simpa using eD
   ·rw [Zk z] at e
    refine (I2.hok b u e).stay (fun d v hd q=>ka d v ?_ q) (fun d q=>by rw [Zk (neH q)]; exact q) fun d xs q=>by rw [Zk (neH q)]; exact q
    rcases hd with rfl | hd
    ·exact fun zz=>by rw [zz,I2.free] at e; cases e
    ·exact fun zz=>by rw [zz,I2.free] at hd; cases hd
end
end L2
namespace PySem.Heap
theorem IsTupleIter.xB {h h':Heap} {b i t:Addr} {k:Nat} (st:h.IsTupleIter i t k) (e:Heap.ExtBut b h h') (n:i≠b):h'.IsTupleIter i t k:=let ⟨o,ho,r⟩:=st; ⟨o,e _ _ n ho,r⟩
theorem IsTuple.xB {h h':Heap} {b t:Addr} {xs:Array Value} (st:h.IsTuple t xs) (e:Heap.ExtBut b h h') (n:t≠b):h'.IsTuple t xs:=let ⟨o,ho,r⟩:=st; ⟨o,e _ _ n ho,r⟩
theorem IsTupleIter.aT {h h':Heap} {i t:Addr} {k:Nat} (st:h.IsTupleIter i t k) (e:∀ o,h.get? i=some o->h'.get? i=some o):h'.IsTupleIter i t k:=let ⟨o,ho,r⟩:=st; ⟨o,e _ ho,r⟩
theorem IsTuple.aT {h h':Heap} {t:Addr} {xs:Array Value} (st:h.IsTuple t xs) (e:∀ o,h.get? t=some o->h'.get? t=some o):h'.IsTuple t xs:=let ⟨o,ho,r⟩:=st; ⟨o,e _ ho,r⟩
end PySem.Heap
namespace ZipLT
open PySem PySem.Calls PyProof.Rows PyProof.V PySem.Spec
abbrev ZAt (h:Heap) (z TI TO:Addr) (f0 f1:Value):Prop :=
 h.get? z=some { cls:=.type "zip",dict:=none,data:=.fields #[f0,f1,.bool false,.ref TI,.ref TO],slots:=#[] }
section
variable {prog:Program} {w:World} {A:Around} {E:Value->Shared->Prop} {s:Shared} {z TI TO T i1 i2 l1 l2:Addr} {f:Bool} {oT:Obj} {k1 k2:Nat} {xs ys:Array Value} {x y:Value}
theorem busy {Q:Bool->Shared->Prop} (hz:ZAt s.heap z TI TO (rawInt T) (.bool f)) (hT:s.heap.get? T=some oT)
  (fin:∀ h',ZAt h' z TI TO (rawInt T) (.bool true)->Heap.SameBut z s.heap h'->Q false { s with heap:=h' }) :
  wpAny (model prog w) A (Builtin.SmallTypes.ownedTupleIsFree (.ref z)) Q E s:=by
 unfold Builtin.SmallTypes.ownedTupleIsFree
 refine wpAny_bind (wpAny_field hz rfl (x:=rawInt T) rfl ?_)
 change wpAny _ _ (loadIfAlive ((T:Int).toNat) >>= _) _ _ _
 rw [Int.toNat_natCast]
 refine wpAny_bind (W.kdx_alive hT ?_)
 simp only [Option.isNone_some,Bool.false_eq_true,if_false]
 refine wpAny_bind (wpAny_field hz rfl (x:=.bool f) rfl ?_)
 cases f with
 | true =>
  have e:(Value.bool true != Value.bool true)=false:=rfl
  rw [e]
  simp only [Bool.false_eq_true,if_false]
  exact wpAny_pure (fin s.heap hz (Heap.SameBut.refl _ _))
 | false =>
  have e:(Value.bool false != Value.bool true)=true:=rfl
  rw [e]
  simp only [if_true]
  refine wpAny_bind (wpAny_setField_rec hz (by simp) fun h' hz' hs'=>?_)
  exact wpAny_pure (fin h' hz' hs')
theorem more_item {Q:Value->Shared->Prop} (D:ZipApart z TI TO i1 i2 l1 l2) (hz:ZAt s.heap z TI TO (rawInt T) (.bool f)) (hT:s.heap.get? T=some oT) (hTI:IsPair s.heap TI (.ref i1) (.ref i2))
  (h1:s.heap.IsTupleIter i1 l1 k1) (h2:s.heap.IsTupleIter i2 l2 k2) (hl1:s.heap.IsTuple l1 xs) (hl2:s.heap.IsTuple l2 ys) (hx:xs[k1]?=some x) (hy:ys[k2]?=some y)
  (hQ:∀ h',ZAt h' z TI TO (rawInt T) (.bool true)->h'.IsTupleIter i1 l1 (k1+1)->h'.IsTupleIter i2 l2 (k2+1)->IsPair h' s.heap.objs.size x y->h'.objs.size=s.heap.objs.size+1 ->
   (∀ c o,c≠z->c≠i1->c≠i2->s.heap.get? c=some o->h'.get? c=some o)->Q (.ref s.heap.objs.size) { s with heap:=h' }) :
  wpAny (model prog w) A (Builtin.«zip.__next__» ⟨[.ref z],[]⟩) (fun fin s'=>∃ v,fin=.done (.ret v)/\Q v s') E s:=by
 change wpAny _ _ (field (.ref z) 2 >>= _) _ _ _
 refine wpAny_bind (wpAny_field hz rfl (x:=.bool false) rfl ?_)
 change wpAny _ _ (field (.ref z) 3 >>= _) _ _ _
 refine wpAny_bind (wpAny_field hz rfl (x:=.ref TI) rfl ?_)
 refine wpAny_bind (wpAny_seqItems hTI rfl ?_)
 change wpAny _ _ (Builtin.SmallTypes.ownedTupleIsFree (.ref z) >>= _) _ _ _
 refine wpAny_bind (busy hz hT fun g1 z1 s1=>?_)
 simp only [Bool.false_eq_true,if_false]
 refine wpAny_bind ?_
 simp only [List.forIn_toArray,List.forIn_cons,List.forIn_nil]
 refine wpAny_bind (wpAny_bind (wpAny_holding ?_))
 change wpAny _ _ (Builtin.SmallTypes.nextOf (.ref i1) >>= _) _ _ _
 refine wpAny_bind (EnuT.nextT (h1.xB s1.extBut D.i1z) (hl1.xB s1.extBut D.l1z) hx fun g2 n1 s2=>wpAny_pure (wpAny_pure ?_))
 dsimp only
 refine wpAny_bind (wpAny_bind (wpAny_holding ?_))
 change wpAny _ _ (Builtin.SmallTypes.nextOf (.ref i2) >>= _) _ _ _
 refine wpAny_bind (EnuT.nextT ((h2.xB s1.extBut D.i2z).xB s2.extBut D.i12.symm) ((hl2.xB s1.extBut D.l2z).xB s2.extBut D.l2i1) hy fun g3 n2 s3=>wpAny_pure (wpAny_pure (wpAny_pure ?_)))
 refine wpAny_bind (wpAny_newTuple (hsz:=by show 2<=sizeLine; decide) (wpAny_pure ⟨_,rfl, ?_⟩))
 have sz:g3.objs.size=s.heap.objs.size:=by rw [s3.1,s2.1,s1.1]
 have zz:ZAt g3 z TI TO (rawInt T) (.bool true):=s3.extBut _ _ D.i2z.symm (s2.extBut _ _ D.i1z.symm z1)
 have kk:∀ c o,c≠z->c≠i1->c≠i2->s.heap.get? c=some o->g3.get? c=some o:=fun c o a b d e=>s3.extBut _ _ d (s2.extBut _ _ b (s1.extBut _ _ a e))
 have m1:=n1.xB s3.extBut D.i12
 change Q (.ref g3.objs.size) _
 rw [sz]
 refine hQ _ (Heap.get?_push_of_some _ zz) (m1.aT fun o e=>Heap.get?_push_of_some _ e) (n2.aT fun o e=>Heap.get?_push_of_some _ e) ?_ ?_ fun c o a b d e=>Heap.get?_push_of_some _ (kk c o a b d e)
 ·rw [<-sz]; exact Heap.get?_push_size _ rfl
 ·rw [Heap.size_push,sz]
theorem more_end {Q:Fin->Shared->Prop} (hh:A.handled=none) (D:ZipApart z TI TO i1 i2 l1 l2) (hz:ZAt s.heap z TI TO (rawInt T) (.bool f)) (hT:s.heap.get? T=some oT) (hTI:IsPair s.heap TI (.ref i1) (.ref i2))
  (h1:s.heap.IsTupleIter i1 l1 k1) (h2:s.heap.IsTupleIter i2 l2 k2) (hl1:s.heap.IsTuple l1 xs) (hl2:s.heap.IsTuple l2 ys) (hend:xs[k1]?=none\/ys[k2]?=none)
  (hE:∀ h' e,(∀ c o,c≠z->c≠i1->c≠i2->s.heap.get? c=some o->h'.get? c=some o)->(∃ o,h'.get? e=some o/\o.cls=.type "StopIteration")->E (.ref e) { s with heap:=h' }) :
  wpAny (model prog w) A (Builtin.«zip.__next__» ⟨[.ref z],[]⟩) Q E s:=by
 change wpAny _ _ (field (.ref z) 2 >>= _) _ _ _
 refine wpAny_bind (wpAny_field hz rfl (x:=.bool false) rfl ?_)
 change wpAny _ _ (field (.ref z) 3 >>= _) _ _ _
 refine wpAny_bind (wpAny_field hz rfl (x:=.ref TI) rfl ?_)
 refine wpAny_bind (wpAny_seqItems hTI rfl ?_)
 change wpAny _ _ (Builtin.SmallTypes.ownedTupleIsFree (.ref z) >>= _) _ _ _
 refine wpAny_bind (busy hz hT fun g1 z1 s1=>?_)
 simp only [Bool.false_eq_true,if_false]
 refine wpAny_bind ?_
 simp only [List.forIn_toArray,List.forIn_cons,List.forIn_nil]
 refine wpAny_bind (wpAny_bind (wpAny_holding ?_))
 change wpAny _ _ (Builtin.SmallTypes.nextOf (.ref i1) >>= _) _ _ _
 cases hx:xs[k1]? with
 | none =>
  exact wpAny_bind (EnuT.endT hh (h1.xB s1.extBut D.i1z) (hl1.xB s1.extBut D.l1z) hx fun g2 e s2 he=>hE g2 e (fun c o a b _ q=>s2 _ _ b (s1.extBut _ _ a q)) he)
 | some x =>
  have hy:ys[k2]?=none:=hend.resolve_left fun h=>by rw [hx] at h; cases h
  refine wpAny_bind (EnuT.nextT (h1.xB s1.extBut D.i1z) (hl1.xB s1.extBut D.l1z) hx fun g2 n1 s2=>wpAny_pure (wpAny_pure ?_))
  dsimp only
  refine wpAny_bind (wpAny_bind (wpAny_holding ?_))
  change wpAny _ _ (Builtin.SmallTypes.nextOf (.ref i2) >>= _) _ _ _
  exact wpAny_bind (EnuT.endT hh ((h2.xB s1.extBut D.i2z).xB s2.extBut D.i12.symm) ((hl2.xB s1.extBut D.l2z).xB s2.extBut D.l2i1) hy fun g3 e s3 he =>
   hE g3 e (fun c o a b d q=>s3 _ _ d (s2.extBut _ _ b (s1.extBut _ _ a q))) he)
structure ZSt (h:Heap) (z TI TO i1 i2 l1 l2 S:Addr) (xs ys:Array Value) (i:Nat):Prop where
 at0:ZAt h z TI TO .none (.bool false)\/∃ (T:Addr) (f:Bool) (oT:Obj),ZAt h z TI TO (rawInt T) (.bool f)/\h.get? T=some oT/\T≠z/\T≠TO/\T≠i1/\T≠i2/\T≠S
 ti:IsPair h TI (.ref i1) (.ref i2)
 to:∃ a b,IsPair h TO a b
 it1:h.IsTupleIter i1 l1 i
 it2:h.IsTupleIter i2 l2 i
 ls1:h.IsTuple l1 xs
 ls2:h.IsTuple l2 ys
theorem ZSt.keep {h h':Heap} {S:Addr} {i:Nat} (q:ZSt h z TI TO i1 i2 l1 l2 S xs ys i) (k:∀ c o,c≠S->h.get? c=some o->h'.get? c=some o) (hS:∀ c∈[z,TI,TO,i1,i2,l1,l2],c≠S):ZSt h' z TI TO i1 i2 l1 l2 S xs ys i where
 at0:=by
  have e:=hS z (by simp)
  rcases q.at0 with a | ⟨T,f,oT,a,b,c⟩
  ·exact .inl (k _ _ e a)
  ·exact .inr ⟨T,f,oT,k _ _ e a,k _ _ c.2.2.2.2 b,c⟩
 ti:=k _ _ (hS TI (by simp)) q.ti
 to:=let ⟨a,b,e⟩:=q.to; ⟨a,b,k _ _ (hS TO (by simp)) e⟩
 it1:=q.it1.aT fun o e=>k _ o (hS i1 (by simp)) e
 it2:=q.it2.aT fun o e=>k _ o (hS i2 (by simp)) e
 ls1:=q.ls1.aT fun o e=>k _ o (hS l1 (by simp)) e
 ls2:=q.ls2.aT fun o e=>k _ o (hS l2 (by simp)) e
theorem st_item {S:Addr} {i:Nat} {Q:Option Value->Shared->Prop} (D:ZipApart z TI TO i1 i2 l1 l2) (q:ZSt s.heap z TI TO i1 i2 l1 l2 S xs ys i) (hS:S<s.heap.objs.size) (hx:xs[i]?=some x) (hy:ys[i]?=some y)
  (hQ:∀ h',ZSt h' z TI TO i1 i2 l1 l2 S xs ys (i+1)->IsPair h' s.heap.objs.size x y->h'.objs.size=s.heap.objs.size+1 ->
   (∀ c o,c≠z->c≠TO->c≠i1->c≠i2->s.heap.get? c=some o->h'.get? c=some o)->Q (some (.ref s.heap.objs.size)) { s with heap:=h' }) :
  wpAny (model prog w) A (pyNext (.ref z)) Q E s:=by
 have lt:∀ {c o},s.heap.get? c=some o->s.heap.objs.size≠c:=fun e=>Nat.ne_of_gt (Heap.lt_size e)
 obtain ⟨a,b,hTO⟩:=q.to
 have e1:s.heap.objs.size≠i1:=by obtain ⟨_,e,_⟩:=q.it1; exact lt e
 have e2:s.heap.objs.size≠i2:=by obtain ⟨_,e,_⟩:=q.it2; exact lt e
 rcases q.at0 with hz | ⟨T,f,oT,hz,hT,t1,t2,t3,t4,t5⟩
 ·refine ZipT.nextItem D hz q.ti hTO q.it1 q.it2 q.ls1 q.ls2 hx hy fun h' a1 a2 a3 a4 a5 a6 hk=>hQ h' ⟨.inr ⟨_,false,_,a1,a5,lt hz,lt hTO,e1,e2,Nat.ne_of_gt hS⟩, ?_,⟨_,_,a2⟩,a3,a4, ?_, ?_⟩ a5 a6 hk
  ·exact hk _ _ D.TIz D.TITO D.TIi1 D.TIi2 q.ti
  ·exact q.ls1.aT fun o e=>hk _ o D.l1z D.l1TO D.l1i1 D.l1i2 e
  ·exact q.ls2.aT fun o e=>hk _ o D.l2z D.l2TO D.l2i1 D.l2i2 e
 ·have ty:s.TypeIs (.ref z) "zip" := ⟨_,hz,rfl⟩
  unfold pyNext
  refine wpAny_bind (wpAny_attempt (wpAny_callSpecial?_slot (name:=Str.ofString "__next__") ty F.slot_zip_next (wpAny_call_entry F.slot_zip_next ty F.entry_zip_next ?_ (F.args_zip_next_1 _))))
  refine more_item D hz hT q.ti q.it1 q.it2 q.ls1 q.ls2 hx hy fun h' a1 a3 a4 a5 a6 hk=>wpAny_pure ?_
  refine hQ h' ⟨.inr ⟨T,true,oT,a1,hk _ _ t1 t3 t4 hT,t1,t2,t3,t4,t5⟩, ?_,⟨a,b, ?_⟩,a3,a4, ?_, ?_⟩ a5 a6 fun c o c1 _ c3 c4 e=>hk c o c1 c3 c4 e
  ·exact hk _ _ D.TIz D.TIi1 D.TIi2 q.ti
  ·exact hk _ _ D.TOz D.TOi1 D.TOi2 hTO
  ·exact q.ls1.aT fun o e=>hk _ o D.l1z D.l1i1 D.l1i2 e
  ·exact q.ls2.aT fun o e=>hk _ o D.l2z D.l2i1 D.l2i2 e
theorem st_done {S:Addr} {i:Nat} {Q:Option Value->Shared->Prop} (hh:A.handled=none) (D:ZipApart z TI TO i1 i2 l1 l2) (q:ZSt s.heap z TI TO i1 i2 l1 l2 S xs ys i) (hend:xs[i]?=none\/ys[i]?=none)
  (hQ:∀ h',(∀ c o,c≠z->c≠TO->c≠i1->c≠i2->s.heap.get? c=some o->h'.get? c=some o)->Q none { s with heap:=h' }) :
  wpAny (model prog w) A (pyNext (.ref z)) Q E s:=by
 obtain ⟨a,b,hTO⟩:=q.to
 rcases q.at0 with hz | ⟨T,f,oT,hz,hT,t1,t2,t3,t4,t5⟩
 ·exact ZipT.nextEnd hh D hz q.ti hTO q.it1 q.it2 q.ls1 q.ls2 hend hQ
 ·have ty:s.TypeIs (.ref z) "zip" := ⟨_,hz,rfl⟩
  unfold pyNext
  refine wpAny_bind (wpAny_attempt (wpAny_callSpecial?_slot (name:=Str.ofString "__next__") ty F.slot_zip_next (wpAny_call_entry F.slot_zip_next ty F.entry_zip_next ?_ (F.args_zip_next_1 _))))
  refine more_end hh D hz hT q.ti q.it1 q.it2 q.ls1 q.ls2 hend fun h' e hk he=>?_
  obtain ⟨o,ho,hc⟩:=he
  refine wpAny_bind (wpAny_isInstance (T:="StopIteration") (b:=true) ⟨o,ho,hc⟩ isSubtype_stop ?_)
  exact wpAny_pure (hQ _ fun c o c1 _ c3 c4 e=>hk c o c1 c3 c4 e)
end
theorem zip_no_len:typeLookup (.type "zip") "__len__" = pure none:=by rw [typeLookup_type,builtinLookup_eq_fast]; kernel_rfl
theorem zip_no_hint:typeLookup (.type "zip") "__length_hint__" = pure none:=by rw [typeLookup_type,builtinLookup_eq_fast]; kernel_rfl
section
variable {prog:Program} {w:World} {A:Around} {R:Result->Shared->Prop} {E:Value->Shared->Prop} {s:Shared} {z TI TO i1 i2 l1 l2 S:Addr} {xs ys:Array Value}
theorem hint {Q:Bool->Shared->Prop} (hT:s.TypeIs (.ref z) "zip") (h:Q true s):wpAny (model prog w) A (Builtin.List.listLengthHint (.ref z)) Q E s:=by
 unfold Builtin.List.listLengthHint
 refine wpAny_bind (wpAny_specialOf hT zip_no_len ?_)
 wp_delta
 refine wpAny_ite_split (fun z=>absurd z (by decide)) fun _=>?_
 refine wpAny_bind (wpAny_specialOf hT zip_no_hint ?_)
 exact wpAny_pure h
structure Made (h:Heap) (lo:Addr) (xs ys:Array Value) (as:List Addr):Prop where
 rise:as.Pairwise (· < ·)
 above:∀ a∈as,lo<=a
 pairs:∀ (j:Nat) (a:Addr),as[j]?=some a->∃ x y,xs[j]?=some x/\ys[j]?=some y/\IsPair h a x y
theorem Made.there {h:Heap} {lo:Addr} {as:List Addr} (g:Made h lo xs ys as) {a:Addr} (ha:a∈as):a<h.objs.size:=by
 obtain ⟨j,hj⟩:=List.mem_iff_getElem?.mp ha
 obtain ⟨_,_,_,_,e⟩:=g.pairs j a hj
 exact Heap.lt_size e
theorem Made.keep {h h':Heap} {lo:Addr} {as:List Addr} (g:Made h lo xs ys as) (k:∀ c o,lo<=c->h.get? c=some o->h'.get? c=some o):Made h' lo xs ys as :=
 ⟨g.rise,g.above,fun j a e=>by
  obtain ⟨x,y,e1,e2,e3⟩:=g.pairs j a e
  exact ⟨x,y,e1,e2,k a _ (g.above a (List.mem_of_getElem? e)) e3⟩⟩
theorem Made.more {h:Heap} {lo:Addr} {as:List Addr} {x y:Value} {b:Addr} (g:Made h lo xs ys as) (hb:IsPair h b x y) (up:∀ a∈as,a<b) (hl:lo<=b) (hx:xs[as.length]?=some x) (hy:ys[as.length]?=some y):Made h lo xs ys (as++[b]):=by
 refine ⟨List.pairwise_append.mpr ⟨g.rise,List.pairwise_singleton _ _,fun a ha c hc=>by rw [List.mem_singleton.mp hc]; exact up a ha⟩,fun a ha=>?_,fun j a e=>?_⟩
 ·rcases List.mem_append.mp ha with q | q
  ·exact g.above a q
  ·rw [List.mem_singleton.mp q]; exact hl
 ·by_cases hj:j<as.length
  ·rw [List.getElem?_append_left hj] at e
   exact g.pairs j a e
  ·have hj':j=as.length:=by
    have:=(List.getElem?_eq_some_iff.mp e).1
    rw [List.length_append,List.length_singleton] at this
    omega
   subst hj'
   have hba:b=a:=by simpa using e
   subst hba
   exact ⟨x,y,hx,hy,hb⟩
theorem loop (hh:A.handled=none) (D:ZipApart z TI TO i1 i2 l1 l2) (hS:∀ c∈[z,TI,TO,i1,i2,l1,l2],c≠S) (res:Value) (lo:Addr) (hlo:∀ c∈[S,z,TI,TO,i1,i2],c<lo) (hn:xs.size<=sizeLine) {h₁:Heap}
  (fin:∀ h' tk acc c as,(∀ b o,b ∉ [S,z,TO,i1,i2]->h₁.get? b=some o->h'.get? b=some o)->h'.get? S=some { cls:=.type "list",dict:=none,data:=.seq acc c,slots:=#[] }->as.length=min xs.size ys.size->Made h' lo xs ys as ->
   acc.toList=as.map Value.ref->R (.ok (.ret res)) { s with heap:=h',toks:=tk }) :
  ∀ (k i:Nat) (h:Heap) (tk c:Nat) (acc:Array Value) (as:List Addr),min xs.size ys.size - i=k->i<=min xs.size ys.size->ZSt h z TI TO i1 i2 l1 l2 S xs ys i->(∀ b o,b ∉ [S,z,TO,i1,i2]->h₁.get? b=some o->h.get? b=some o) ->
   h.get? S=some { cls:=.type "list",dict:=none,data:=.seq acc c,slots:=#[] }->acc.toList=as.map Value.ref->as.length=i->Made h lo xs ys as->lo<=h.objs.size ->
   codeAny (model prog w) A (.builtin "list.extend.loop" ⟨[.ref S,.ref z,res],[]⟩) R { s with heap:=h,toks:=tk }:=by
 have nb:∀ {b:Addr},b ∉ [S,z,TO,i1,i2]->b≠S/\b≠z/\b≠TO/\b≠i1/\b≠i2:=fun q=>by simpa [not_or] using q
 have nlo:∀ {b:Addr},lo<=b->b≠S/\b≠z/\b≠TO/\b≠i1/\b≠i2:=fun q =>
  have f:∀ c∈[S,z,TI,TO,i1,i2],_:=fun c hc=>Nat.ne_of_gt (Nat.lt_of_lt_of_le (hlo c hc) q)
  ⟨f S (by simp),f z (by simp),f TO (by simp),f i1 (by simp),f i2 (by simp)⟩
 have Sn:S≠z/\S≠TO/\S≠i1/\S≠i2:=⟨(hS z (by simp)).symm,(hS TO (by simp)).symm,(hS i1 (by simp)).symm,(hS i2 (by simp)).symm⟩
 intro k
 induction k with
 | zero =>
  intro i h tk c acc as hk hi st kp hSo hacc hal G hsz
  have hend:xs[i]?=none\/ys[i]?=none:=by
   have e:i=min xs.size ys.size:=by omega
   rcases Nat.le_total xs.size ys.size with q | q
   ·exact .inl (Array.getElem?_eq_none (by omega))
   ·exact .inr (Array.getElem?_eq_none (by omega))
  refine codeAny_builtin PySem.F.entry_extend_loop ?_
  rw [Around.under_plainId PySem.F.plain_extend_loop _]
  change wpAny _ A.in1 (pyNext (.ref z) >>= _) _ _ _
  refine wpAny_bind (st_done (s:={ s with heap:=h,toks:=tk }) (A:=A.in1) hh D st hend fun h' he=>?_)
  exact wpAny_pure (fin h' tk acc c as (fun b o q e=>he b o (nb q).2.1 (nb q).2.2.1 (nb q).2.2.2.1 (nb q).2.2.2.2 (kp b o q e)) (he S _ Sn.1 Sn.2.1 Sn.2.2.1 Sn.2.2.2 hSo) (by omega)
   (G.keep fun b o q e=>he b o (nlo q).2.1 (nlo q).2.2.1 (nlo q).2.2.2.1 (nlo q).2.2.2.2 e) hacc)
 | succ k ih =>
  intro i h tk c acc as hk hi st kp hSo hacc hal G hsz
  have l1':i<xs.size:=by omega
  have l2':i<ys.size:=by omega
  have asz:acc.size=i:=by rw [<-Array.length_toList,hacc,List.length_map,hal]
  refine codeAny_builtin PySem.F.entry_extend_loop ?_
  rw [Around.under_plainId PySem.F.plain_extend_loop _]
  change wpAny _ A.in1 (pyNext (.ref z) >>= _) _ _ _
  refine wpAny_bind (st_item (s:={ s with heap:=h,toks:=tk }) (A:=A.in1) D st (Heap.lt_size hSo) (Array.getElem?_eq_getElem l1') (Array.getElem?_eq_getElem l2') fun h' st' ht hz hkp=>?_)
  dsimp only at ht hz hkp ⊢
  have hS':=hkp S _ Sn.1 Sn.2.1 Sn.2.2.1 Sn.2.2.2 hSo
  have up:∀ b o,b≠S->h'.get? b=some o->(h'.update S (Obj.mapSeq (·.push (Value.ref h.objs.size)))).get? b=some o:=fun b o hb e=>(Heap.get?_update_other _ _ (Ne.symm hb)).trans e
  have hSl:S<h.objs.size:=Heap.lt_size hSo
  change wpAny _ A.in1 (updateSeq S (·.push (Value.ref h.objs.size)) >>= _) _ _ _
  refine wpAny_bind ?_
  have G1:Made (h'.update S (Obj.mapSeq (·.push (Value.ref h.objs.size)))) lo xs ys (as++[h.objs.size]):=by
   have g0:Made (h'.update S (Obj.mapSeq (·.push (Value.ref h.objs.size)))) lo xs ys as:=G.keep fun b o q e=>up b o (nlo q).1 (hkp b o (nlo q).2.1 (nlo q).2.2.1 (nlo q).2.2.2.1 (nlo q).2.2.2.2 e)
   refine g0.more (up _ _ (Nat.ne_of_gt hSl) ht) (fun a ha=>G.there ha) hsz ?_ ?_
   ·rw [hal]; exact Array.getElem?_eq_getElem l1'
   ·rw [hal]; exact Array.getElem?_eq_getElem l2'
  refine wpAny_updateSeq hS' rfl (wpAny_pure ⟨plainId_quiet PySem.F.plain_extend_loop _,ih (i+1) _ tk _ (acc.push (Value.ref h.objs.size)) (as++[h.objs.size]) (by omega) (by omega) (st'.keep (fun c o q e=>up c o q e) hS) (fun b o q e=>up b o (nb q).1 (hkp b o (nb q).2.1 (nb q).2.2.1 (nb q).2.2.2.1 (nb q).2.2.2.2 (kp b o q e))) (Heap.get?_update_self _ hS' rfl) (by rw [Array.toList_push,hacc,List.map_append]; rfl) (by rw [List.length_append,hal]; rfl) G1 ?_⟩) (by rw [asz]; omega) (by show (acc.push (Value.ref h.objs.size)).size<=sizeLine+1; rw [Array.size_push,asz]; omega)
  exact Nat.le_trans hsz (Nat.le_of_lt (Heap.lt_size (up _ _ (Nat.ne_of_gt hSl) ht)))
theorem extend (hh:A.handled=none) (D:ZipApart z TI TO i1 i2 l1 l2) (hS:∀ c∈[z,TI,TO,i1,i2,l1,l2],c≠S) (res:Value) (hn:xs.size<=sizeLine) {c₀:Nat} (st:ZSt s.heap z TI TO i1 i2 l1 l2 S xs ys 0) (hSo:s.heap.get? S=some { cls:=.type "list",data:=.seq #[] c₀ })
  (fin:∀ h' tk acc c as,(∀ b o,b ∉ [S,z,TO,i1,i2]->s.heap.get? b=some o->h'.get? b=some o)->h'.get? S=some { cls:=.type "list",dict:=none,data:=.seq acc c,slots:=#[] }->as.length=min xs.size ys.size->Made h' s.heap.objs.size xs ys as ->
   acc.toList=as.map Value.ref->R (.ok (.ret res)) { s with heap:=h',toks:=tk }) :
  wpAny (model prog w) A.in1 (Builtin.List.listExtendWith (.ref S) (.ref z) res)
   (fun fin s'=>match fin with | .done f=>R (.ok f) s' | .again c'=>c'.quiet=true/\codeAny (model prog w) A c' R s') (fun e s'=>R (.error e) s') s:=by
 have zt:∃ f0 f1,ZAt s.heap z TI TO f0 f1:=by
  rcases st.at0 with a | ⟨T,f,oT,a,_⟩
  ·exact ⟨_,_,a⟩
  ·exact ⟨_,_,a⟩
 obtain ⟨f0,f1,hz⟩:=zt
 obtain ⟨ta,tb,hTO⟩:=st.to
 have ty:s.TypeIs (.ref z) "zip" := ⟨_,hz,rfl⟩
 have hlo:∀ c∈[S,z,TI,TO,i1,i2],c<s.heap.objs.size:=fun c hc=>by
  have a1:=Heap.lt_size hSo
  have a2:=Heap.lt_size hz
  have a3:=Heap.lt_size st.ti
  have a4:=Heap.lt_size hTO
  obtain ⟨_,e1,_⟩:=st.it1
  obtain ⟨_,e2,_⟩:=st.it2
  have a5:=Heap.lt_size e1
  have a6:=Heap.lt_size e2
  simp only [List.mem_cons,List.not_mem_nil,or_false] at hc
  rcases hc with rfl | rfl | rfl | rfl | rfl | rfl <;> assumption
 unfold Builtin.List.listExtendWith
 refine wpAny_bind (wpAny_typeOf ty ?_)
 have n1:Builtin.List.listSameRef (.ref S) (.ref z)=false:=by
  simp only [Builtin.List.listSameRef,beq_eq_false_iff_ne]
  exact (hS z (by simp)).symm
 have n2:(Value.type "zip" == Value.type "list")=false:=by decide
 have n3:(Value.type "zip" == Value.type "tuple")=false:=by decide
 simp only [n1,n2,n3,Bool.or_false,Bool.false_eq_true,if_false]
 have it:∀ {Q:Value->Shared->Prop},Q (.ref z) s->wpAny (model prog w) A.in1 (pyIter (.ref z)) Q (fun e s'=>R (.error e) s') s:=fun q=>by
  refine wpAny_pyIter_slot ty F.slot_zip_iter (wpAny_call_entry F.slot_zip_iter ty F.entry_zip_iter ?_ (F.args_zip_iter_1 _))
  change wpAny _ _ (ret (.ref z)) _ _ s
  exact wpAny_pure ⟨_,rfl,"zip",_,ty,F.slot_zip_next.lookup,q⟩
 refine wpAny_bind (it ?_)
 refine wpAny_bind (wpAny_holding (hint ty ?_))
 simp only [Bool.true_or,if_true]
 refine wpAny_bind (wpAny_rule (wpAny_bind (m:=Builtin.List.listTouch (.ref S)) ?_))
 change wpAny (model prog w) _ (updateSeq S (·.push .none) >>= fun _=>updateSeq S (·.pop)) _ _ _
 refine wpAny_bind (wpAny_updateSeq hSo rfl ?_)
 have u1:=Heap.get?_update_self (Obj.mapSeq (·.push Value.none)) hSo rfl
 refine wpAny_updateSeq (hz:=by seq_fits) u1 rfl ?_
 have u2:=Heap.get?_update_self (Obj.mapSeq (·.pop)) u1 rfl
 have other:∀ b ob,b≠S->s.heap.get? b=some ob->((s.heap.update S (Obj.mapSeq (·.push Value.none))).update S (Obj.mapSeq (·.pop))).get? b=some ob:=fun b ob q e=>(Heap.get?_update_other _ _ (Ne.symm q)).trans ((Heap.get?_update_other _ _ (Ne.symm q)).trans e)
 refine wpAny_pure ⟨plainId_quiet PySem.F.plain_extend_loop _, ?_⟩
 exact loop (h₁:=s.heap) (s:=s) hh D hS res s.heap.objs.size hlo hn fin _ 0 _ s.toks _ #[] [] rfl (Nat.zero_le _) (st.keep (fun c o q e=>other c o q e) hS) (fun b o q e=>other b o (fun e'=>q (by rw [e']; exact List.mem_cons_self)) e) u2 rfl rfl
  ⟨List.Pairwise.nil,(fun _ ha=>nomatch ha),fun j a hj=>by simp at hj⟩ (by rw [Heap.size_update,Heap.size_update]; exact Nat.le_refl _)
theorem call_list {Q:Value->Shared->Prop} (hh:A.handled=none) (D:ZipApart z TI TO i1 i2 l1 l2) (hn:xs.size<=sizeLine) (hz:IsZip s.heap z TI TO .none) (hTI:IsPair s.heap TI (.ref i1) (.ref i2)) {a b:Value} (hTO:IsPair s.heap TO a b)
  (h1:s.heap.IsTupleIter i1 l1 0) (h2:s.heap.IsTupleIter i2 l2 0) (hl1:s.heap.IsTuple l1 xs) (hl2:s.heap.IsTuple l2 ys)
  (fin:∀ h' tk acc c as,(∀ b o,b ∉ [z,TO,i1,i2]->s.heap.get? b=some o->h'.get? b=some o)->h'.get? s.heap.objs.size=some { cls:=.type "list",dict:=none,data:=.seq acc c,slots:=#[] }->as.length=min xs.size ys.size->Made h' (s.heap.objs.size+1) xs ys as ->
   acc.toList=as.map Value.ref->Q (.ref s.heap.objs.size) { s with heap:=h',toks:=tk }) :
  wpAny (model prog w) A (call (.type "list") [.ref z]) Q E s:=by
 have lt:∀ {c o},s.heap.get? c=some o->c≠s.heap.objs.size:=fun e=>Nat.ne_of_lt (Heap.lt_size e)
 have pu:∀ {c o},s.heap.get? c=some o->(s.heap.push { cls:=.type "list",data:=.seq #[] }).get? c=some o:=fun e=>Heap.get?_push_of_some _ e
 have hS:∀ c∈[z,TI,TO,i1,i2,l1,l2],c≠s.heap.objs.size:=fun c hc=>by
  obtain ⟨_,e1,_⟩:=id h1
  obtain ⟨_,e2,_⟩:=id h2
  obtain ⟨_,e3,_⟩:=id hl1
  obtain ⟨_,e4,_⟩:=id hl2
  simp only [List.mem_cons,List.not_mem_nil,or_false] at hc
  rcases hc with rfl | rfl | rfl | rfl | rfl | rfl | rfl
  ·exact lt hz
  ·exact lt hTI
  ·exact lt hTO
  ·exact lt e1
  ·exact lt e2
  ·exact lt e3
  ·exact lt e4
 refine callType_codes (Q₁:=fun obj s₁=>obj=.ref s.heap.objs.size/\s₁={ s with heap:=s.heap.push { cls:=.type "list",data:=.seq #[] } }) PySem.F.called_list (PySem.F.typeCall_list_1 _) PySem.F.entry_list_init
  (code_list_new _ ⟨rfl,rfl⟩) fun obj s₁ q=>?_
 obtain ⟨rfl,rfl⟩:=q
 have Va:(s.heap.push { cls:=.type "list",data:=.seq #[] }).get? s.heap.objs.size=some { cls:=.type "list",data:=.seq #[] }:=Heap.get?_push_size _ rfl
 refine ⟨⟨_,Va,rfl⟩,PySem.F.args_list_init_2 _ _, ?_⟩
 change wpAny _ _ (do let old <-Builtin.List.listItems (.ref s.heap.objs.size); Builtin.List.listUpdate (.ref s.heap.objs.size) (fun _=>#[]); letGo old.toList.reverse; Builtin.List.listExtendWith (.ref s.heap.objs.size) (.ref z) .none) _ _ _
 refine wpAny_bind ?_
 unfold Builtin.List.listItems
 refine wpAny_bind (wpAny_seqItems Va rfl (wpAny_pure ?_))
 change wpAny _ _ (updateSeq s.heap.objs.size (fun _=>#[]) >>= fun _=>letGo (#[]:Array Value).toList.reverse >>= fun _=>Builtin.List.listExtendWith (.ref s.heap.objs.size) (.ref z) .none) _ _ _
 refine wpAny_bind (wpAny_updateSeq Va rfl ?_)
 have at2:=Heap.get?_update_self (Obj.mapSeq (fun _=>(#[]:Array Value))) Va rfl
 have oth:∀ b o,s.heap.get? b=some o->((s.heap.push { cls:=.type "list",data:=.seq #[] }).update s.heap.objs.size (Obj.mapSeq (fun _=>(#[]:Array Value)))).get? b=some o :=
  fun b o e=>(Heap.get?_update_other _ _ (Ne.symm (lt e))).trans (pu e)
 refine wpAny_bind (wpAny_letGo ?_)
 refine extend (A:=A.in1) hh D hS .none hn ⟨.inl (oth _ _ hz),oth _ _ hTI,⟨a,b,oth _ _ hTO⟩,h1.aT fun o e=>oth _ o e,h2.aT fun o e=>oth _ o e,hl1.aT fun o e=>oth _ o e,hl2.aT fun o e=>oth _ o e⟩ at2 fun h' tk acc c as k1 k2 k3 k4 k5=>?_
 refine ⟨rfl,fin h' tk acc c as (fun b o q e=>k1 b o (fun m=>?_) (oth b o e)) k2 k3 ?_ k5⟩
 ·rcases List.mem_cons.mp m with m | m
  ·exact lt e m
  ·exact q m
 ·have e:((s.heap.push { cls:=.type "list",data:=.seq #[] }).update s.heap.objs.size (Obj.mapSeq (fun _=>(#[]:Array Value)))).objs.size=s.heap.objs.size+1:=by rw [Heap.size_update,Heap.size_push]
  rw [<-e]; exact k4
end
end ZipLT
namespace L2
open PySem PySem.Spec PyProof.Rows
def tZipT (K:W.Frag) (t:TA):TE:=fun σ H Q=>t σ H fun vs H1=>∃ p q xs ys,vs=[.ref p,.ref q]/\Z6 K H1 p xs/\Z6 K H1 q ys /\
 ∀ (l:Addr) (as:List Addr) (H':Hp),H1 l=none->Zv H1 H'->H' l=some (.lst (as.map V.ref))->AtPairs H' as xs ys->Q (.ref l) H'
section
variable {X:Cx} {x y:Str} {p p2 pos pos2:Pos} {a b:Expr} {t:TA}
theorem pe_listZipT (hc:X.calm=true) (hg:Gl X "list") (hm:X.mg "list" = none) (hgz:Gl X "zip") (hmz:X.mg "zip" = none) (ha:PA X [a,b] t)
  (he:starEach [.Call (.Name "zip" p2) [a,b] [] pos2] X.env=[(false,eval (.Call (.Name "zip" p2) [a,b] [] pos2) X.env)]:=by rfl)
  (he2:starEach [a,b] X.env=(false,eval a X.env)::starEach [b] X.env:=by rfl) (hpl:(backTo pos2 (starEach [b] X.env)).any (·.1)=false:=by rfl) :
  PE X (.Call (.Name "list" p) [.Call (.Name "zip" p2) [a,b] [] pos2] [] pos) (tZipT X.K t):=by
 intro pins s σ H Q I h
 refine wpAny_Call_Name_kw (ld_blt I hg hm (by decide +kernel:bootBuiltins "list" = some (.type "list")) ?_ (by decide) (by decide))
 refine callWith_type1 ?_ he rfl
 rw [he]
 change wpAny _ _ (spliced ((false,eval (.Call (.Name "zip" p2) [a,b] [] pos2) X.env)::[])) _ _ s
 refine Calls.spliced_cons ?_
 refine wpAny_Call_Name_kw (ld_blt I hgz hmz (by decide +kernel:bootBuiltins "zip" = some (.type "zip")) ?_ (by decide) (by decide))
 refine callWith_type1 (Y9 (ha pos2 pins s σ H _ I h) fun us s1 ⟨vs,H1,I1,r1,q1⟩=>?_) he2 hpl
 obtain ⟨l1,l2,xs,ys,rfl,hx,hy,q⟩:=q1
 obtain ⟨u1,u2,rfl,e1,e2⟩:=vals2 r1
 cases e1
 cases e2
 obtain ⟨is1,v1,pl1,z1⟩:=I1.tuple hx
 obtain ⟨is2,v2,pl2,z2⟩:=I1.tuple hy
 have n1:l1<s1.heap.objs.size:=by obtain ⟨_,e,_⟩:=(show s1.heap.IsTuple l1 _ from pl1); exact Heap.lt_size e
 have n2:l2<s1.heap.objs.size:=by obtain ⟨_,e,_⟩:=(show s1.heap.IsTuple l2 _ from pl2); exact Heap.lt_size e
 refine ZipT.call2 (show s1.heap.IsTuple l1 _ from pl1) (show s1.heap.IsTuple l2 _ from pl2) fun h2 b1 b2 b3 b4 b5 b6 k2=>?_
 refine Calls.spliced_nil ?_
 refine ZipLT.call_list (s:={ s1 with heap:=h2 }) (I1.ok.hd hc) (zipApart_new n1 n2) (by rw [List.size_toArray, <-v1.length]; exact z1) b1 b2 b3 b4 b5 ((show s1.heap.IsTuple l1 _ from pl1).aT fun o e=>k2 _ o e) ((show s1.heap.IsTuple l2 _ from pl2).aT fun o e=>k2 _ o e) fun h3 tk acc cc as k3 at3 al mk hacc=>?_
 dsimp only at at3 mk k3
 rw [b6] at at3 mk
 have kk:∀ c o,s1.heap.get? c=some o->h3.get? c=some o:=fun c o e=>by
  refine k3 c o (fun m=>?_) (k2 c o e)
  simp only [List.mem_cons,List.not_mem_nil,or_false] at m
  rcases m with m | m | m | m
  ·exact Nat.ne_of_lt (Nat.lt_of_lt_of_le (Heap.lt_size e) (Nat.le_add_right _ _)) m
  ·exact Nat.ne_of_lt (Nat.lt_of_lt_of_le (Heap.lt_size e) (Nat.le_add_right _ _)) m
  ·exact Nat.ne_of_lt (Heap.lt_size e) m
  ·exact Nat.ne_of_lt (Nat.lt_of_lt_of_le (Heap.lt_size e) (Nat.le_add_right _ _)) m
 have lz:as.length<=sizeLine:=by
  rw [al]
  exact Nat.le_trans (Nat.min_le_left _ _) (by rw [List.size_toArray, <-v1.length]; exact z1)
 have new:∀ c o,s1.heap.objs.size<=c->layP H1 s1.heap.objs.size (s1.heap.objs.size+5) as xs ys c=some o->Yu X.prog X.w (layP H1 s1.heap.objs.size (s1.heap.objs.size+5) as xs ys) h3 c o:=fun c o hc' e=>by
  unfold layP at e
  rw [if_neg (Nat.not_lt_of_le hc')] at e
  by_cases hl:c=s1.heap.objs.size+5
  ·rw [if_pos hl] at e
   cases e
   refine ⟨by rw [List.length_map]; exact lz,acc.toList,cc, ?_, ?_⟩
   ·rw [hacc]
    exact vals_refs as
   ·rw [hl]
    exact at3
  ·rw [if_neg hl] at e
   by_cases hm':c∈as
   ·rw [if_pos hm'] at e
    cases e
    obtain ⟨j,hj⟩:=List.mem_iff_getElem?.mp hm'
    obtain ⟨x,y,g1,g2,g3⟩:=mk.pairs j c hj
    rw [ix_same mk.rise hj]
    refine ⟨by show 2<=sizeLine; decide,[x,y],.cons (vals_at v1 (by simpa using g1)) (.cons (vals_at v2 (by simpa using g2)) .nil),⟨_,g3,rfl,⟨_,rfl⟩,rfl⟩⟩
   ·rw [if_neg hm'] at e
    cases e
 have J:=I1.lays (H':=layP H1 s1.heap.objs.size (s1.heap.objs.size+5) as xs ys) (t':=tk) kk (fun c hc'=>by unfold layP; rw [if_pos hc']) new
 have nl:¬ (s1.heap.objs.size+5<s1.heap.objs.size):=Nat.not_lt_of_le (Nat.le_add_right _ _)
 refine ⟨.ref (s1.heap.objs.size+5),_,J,by rw [b6]; rfl,q _ as _ (I1.hok.fresh (Nat.le_add_right _ _)) (fun c o e=>?_) ?_ (AtPairs.of ?_ fun j a hj=>?_)⟩
 ·unfold layP
  rw [if_pos (I1.hok.lt e)]
  exact e
 ·unfold layP
  rw [if_neg nl,if_pos rfl]
 ·rw [al,List.size_toArray,List.size_toArray,v1.length,v2.length]
 ·have ab:=mk.above a (List.mem_of_getElem? hj)
  obtain ⟨x,y,g1,g2,g3⟩:=mk.pairs j a hj
  have c1:j<xs.length:=by rw [v1.length]; have:=(Array.getElem?_eq_some_iff.mp g1).1; simpa using this
  have c2:j<ys.length:=by rw [v2.length]; have:=(Array.getElem?_eq_some_iff.mp g2).1; simpa using this
  refine ⟨xs[j],ys[j],List.getElem?_eq_getElem c1,List.getElem?_eq_getElem c2, ?_⟩
  unfold layP
  have a1:s1.heap.objs.size+5<a:=Nat.lt_of_lt_of_le (Nat.lt_succ_self _) ab
  rw [if_neg (Nat.not_lt_of_le (Nat.le_trans (Nat.le_add_right _ _) (Nat.le_of_lt a1))),if_neg (Nat.ne_of_gt a1),if_pos (List.mem_of_getElem? hj),ix_same mk.rise hj,List.getD_eq_getElem?_getD,List.getD_eq_getElem?_getD,List.getElem?_eq_getElem c1,List.getElem?_eq_getElem c2]
  rfl
end
theorem for_zipT {K:PySem.W.Frag} {l1 l2:Addr} {xs ys:List V} {g:TG} {tb:TS} {D:Ends} {σ:St} {H:Hp} (Pv:Nat->St->Hp->Prop) (h0:Pv 0 σ H) (hl:∀ i σ H,i<=min xs.length ys.length->Pv i σ H->Z6 K H l1 xs/\Z6 K H l2 ys)
  (hs:∀ i x y p σ H,xs[i]?=some x->ys[i]?=some y->Pv i σ H->H p=none->g (.ref p) σ (Z3 H p (.tup [x,y])) fun σ2 H2=>tb { D with nx:=Pv (i+1),ct:=Pv (i+1),bk:=D.nx } σ2 H2) (hd:∀ σ H,Pv (min xs.length ys.length) σ H->D.nx σ H) :
  ∃ W:Nat->Nat->St->Hp->Prop,(∃ m,W 0 m σ H)/\∀ i m σ H,W i m σ H ->
   ((Itzt K l1 l2).stop i H/\D.nx σ H)\/((Itzt K l1 l2).go i H/\∃ N:St->Hp->Prop,(∀ σ' H',N σ' H'->∃ m',m'<m/\W (i+1) m' σ' H')/\∀ x H',(Itzt K l1 l2).yld i H x H'->g x σ H' fun σ2 H2=>tb { D with nx:=N,ct:=N,bk:=D.nx } σ2 H2):=by
 refine ⟨fun i m σ H=>m=min xs.length ys.length - i/\i<=min xs.length ys.length/\Pv i σ H,⟨min xs.length ys.length,by simp,Nat.zero_le _,h0⟩, ?_⟩
 rintro i m σ H ⟨rfl,hi,p⟩
 obtain ⟨q1,q2⟩:=hl i σ H hi p
 by_cases hlt:i<min xs.length ys.length
 ·have c1:i<xs.length:=by omega
  have c2:i<ys.length:=by omega
  refine .inr ⟨⟨xs,ys,xs[i],ys[i],q1,q2,by simp [c1],by simp [c2]⟩,Pv (i+1),fun σ' H' p'=>⟨min xs.length ys.length - (i+1),by omega,rfl,hlt,p'⟩,fun v H' y=>?_⟩
  obtain ⟨a,x,y',rfl,hn,rfl,y1,y2⟩:=y
  exact hs i x y' a σ H (y1 xs q1) (y2 ys q2) p hn
 ·have e:i=min xs.length ys.length:=by omega
  subst e
  exact .inl ⟨⟨xs,ys,q1,q2,by omega⟩,hd σ H p⟩
end L2
namespace DicP2
open PySem PySem.Spec PyProof.Rows
def aeObj (t:Value):Obj:={ cls:=.type "AttributeError",data:=.fields #[t,.none,.none,.none,.bool false,.none,unsetMember,unsetMember] }
theorem nst:((Manifest.find? "AttributeError").elim false fun t=>t.mro.contains "StopIteration" || t.mro.contains "SystemExit")=false:=by decide +kernel
theorem newAE {prog:Program} {w:World} {A:Around} {E:Value->Shared->Prop} {s:Shared} {v:Value} {Q:Value->Shared->Prop}
  (hq:∀ h' e t,(∀ b u,s.heap.get? b=some u->h'.get? b=some u)->h'.get? e=some (aeObj t)->s.heap.get? e=none->Q (.ref e) { s with heap:=h' }):wpAny (model prog w) A (newExc (.type "AttributeError") [v]) Q E s:=by
 obtain ⟨h,g,d,t,os⟩:=s
 simp only [newExc,newTuple]
 wp_walk
 have e:(#[Value.ref h.objs.size,Value.none,Value.none,Value.none,Value.bool false,if ((Manifest.find? "AttributeError").elim false fun t=>t.mro.contains "StopIteration" || t.mro.contains "SystemExit")=true then [v].headD Value.none else Value.none]++ownMembersOf (Value.type "AttributeError") [v])=#[.ref h.objs.size,.none,.none,.none,.bool false,.none,unsetMember,unsetMember]:=by
  rw [nst]; rfl
 rw [e]
 refine hq _ _ (.ref h.objs.size) (fun b u q=>Heap.get?_push_of_some _ (Heap.get?_push_of_some _ q)) (Heap.get?_push_size _ rfl) ?_
 cases z:h.get? (h.push { cls:=Value.type "tuple",data:=Data.seq #[v] }).objs.size with
 | none=>rfl
 | some o =>
  have:=Heap.lt_size z
  rw [Heap.size_push] at this
  exact absurd this (Nat.not_lt.mpr (Nat.le_succ _))
theorem note {prog:Program} {w:World} {A:Around} {E:Value->Shared->Prop} {s:Shared} {e:Addr} {t o nm:Value} {Q:Unit->Shared->Prop} (he:s.heap.get? e=some (aeObj t))
  (hq:∀ h' d,Heap.SameBut e s.heap h'->h'.get? e=some { cls:=.type "AttributeError",data:=d }->Q () { s with heap:=h' }):wpAny (model prog w) A (noteAttr (.ref e) o nm) Q E s:=by
 unfold noteAttr
 simp only []
 unfold lacksNameAndObj
 simp only []
 refine wpAny_bind (wpAny_bind (wpAny_isInstance (T:="AttributeError") (b:=true) ⟨_,he,rfl⟩ (by rw [isSubtype_type]; kernel_rfl) ?_))
 simp only [Bool.not_true,Bool.false_eq_true,if_false]
 refine wpAny_bind (wpAny_load he ?_)
 show wpAny _ _ (pure true) _ _ _
 refine wpAny_pure ?_
 simp only [if_true]
 refine wpAny_bind (wpAny_rule (wpAny_bind (wpAny_typeOf (T:="AttributeError") ⟨_,he,rfl⟩ ?_)))
 refine wpAny_layMembers he rfl ?_
 refine hq _ _ ⟨Heap.size_update _ _ _,fun b hb=>Heap.get?_update_other _ _ (Ne.symm hb)⟩ (Heap.get?_update_self _ he rfl)
theorem tl1:typeLookup (.type "tuple") (Str.ofString "__getattribute__")=pure (some (.builtin "tuple.__getattribute__")):=by rw [typeLookup_type,builtinLookup_eq_fast]; kernel_rfl
theorem tl2:typeLookup (.type "tuple") (Str.ofString "keys")=pure none:=by rw [typeLookup_type,builtinLookup_eq_fast]; kernel_rfl
theorem tl3:typeLookup (.type "tuple") (Str.ofString "__getattr__")=pure none:=by rw [typeLookup_type,builtinLookup_eq_fast]; kernel_rfl
theorem slot_ga:Slot "tuple" (Str.ofString "__getattribute__") "tuple.__getattribute__" := Slot.of (owner:="tuple") (n:="__getattribute__") tl1 (by decide +kernel) (by decide +kernel) (by decide +kernel) (.inl (by decide +kernel)) (by rw [isSubtype_type]; kernel_rfl)
theorem entry_ga:entryFor table "tuple.__getattribute__" = some Builtin.«object.__getattribute__»:=entryFor_alias (id':="object.__getattribute__") (by kernel_rfl) rfl (by decide +kernel) (by kernel_rfl)
theorem args_ga (a b:Value):argsOk "tuple.__getattribute__" ⟨[a,b],[]⟩:=by unfold argsOk; kernel_rfl
theorem ga_body {prog:Program} {w:World} {A:Around} {E:Value->Shared->Prop} {s:Shared} {u:Nat} {a:Addr} {its:Array Value} {n:Nat} {sl:Array (Option Value)} {Q:PySem.Fin->Shared->Prop} (hh:A.handled=none) (ho:s.heap.get? a=some ⟨.type "tuple",none,.seq its n,sl⟩)
  (hq:∀ e h' t',(∃ o,h'.get? e=some o/\o.cls=.type "AttributeError")->(∀ b u,s.heap.get? b=some u->h'.get? b=some u)->E (.ref e) { s with heap:=h',toks:=t' }):wpAny (model prog w) A (Builtin.«object.__getattribute__» ⟨[.ref a,.str (Str.ofString "keys") u],[]⟩) Q E s:=by
 obtain ⟨h,g,d,t,os⟩:=s
 have ho:h.get? a=some ⟨.type "tuple",none,.seq its n,sl⟩:=ho
 unfold Builtin.«object.__getattribute__»
 wp_walk
 show wpAny _ _ (typeLookup (.type "tuple") _) _ _ _
 rw [tl2]
 wp_walk
 have hl:(Str.ofString (toString "'" ++ toString ((Manifest.find? "tuple").elim "tuple" fun x=>x.tpName)++toString "' object has no attribute '")++Str.ofString "keys" ++ Str.ofString "'").length<=sizeLine:=by decide +kernel
 generalize (Str.ofString (toString "'" ++ toString ((Manifest.find? "tuple").elim "tuple" fun x=>x.tpName)++toString "' object has no attribute '")++Str.ofString "keys" ++ Str.ofString "'")=msg at hl ⊢
 unfold raiseAttrError
 refine wpAny_bind (wpAny_mkStr ?_ hl)
 refine wpAny_bind (newAE fun h1 e t1 k1 e1 n1=>?_)
 refine wpAny_bind (wpAny_mkText ?_)
 refine wpAny_bind (note e1 fun h2 d2 sb e2=>?_)
 refine wpAny_raiseNew_none hh (hq e h2 _ ⟨_,e2,rfl⟩ fun b u q=>?_)
 refine (sb.2 b fun z=>?_).trans (k1 b u q)
 rw [z] at q
 rw [show h.get? e=none from n1] at q
 cases q
theorem hb0:hookBefore (.type "tuple")=pure none:=rfl
theorem keys_none {prog:Program} {w:World} {A:Around} {E:Value->Shared->Prop} {s:Shared} {a:Addr} {its:Array Value} {n:Nat} {sl:Array (Option Value)} {Q:Option Value->Shared->Prop} (hh:A.handled=none) (ho:s.heap.get? a=some ⟨.type "tuple",none,.seq its n,sl⟩)
  (hq:∀ h' t',(∀ b u,s.heap.get? b=some u->h'.get? b=some u)->Q none { s with heap:=h',toks:=t' }):wpAny (model prog w) A (getAttr? (.ref a) (Str.ofString "keys")) Q E s:=by
 obtain ⟨h,g,d,t,os⟩:=s
 have ho:h.get? a=some ⟨.type "tuple",none,.seq its n,sl⟩:=ho
 unfold getAttr?
 refine wpAny_bind (wpAny_mkText ?_)
 unfold getAttrBy?
 refine wpAny_bind (wpAny_attempt ?_)
 unfold getAttrBy
 refine wpAny_holding ?_
 have ht:Shared.TypeIs ⟨h,g,d,t+1,os⟩ (.ref a) "tuple" := ⟨_,ho,rfl⟩
 refine wpAny_bind (wpAny_typeOf ht ?_)
 rw [tl1]
 refine wpAny_bind (wpAny_pure ?_)
 simp only []
 refine wpAny_ite_split (fun z=>absurd z (by decide)) fun _=>?_
 unfold getAttrByItsOwn
 rw [hb0]
 refine wpAny_bind (wpAny_pure ?_)
 refine wpAny_bind (wpAny_attempt (wpAny_holding ?_))
 show wpAny _ _ (boundAndCalled (.builtin "tuple.__getattribute__") (.ref a) _) _ _ _
 unfold boundAndCalled
 rw [slot_ga.toG.bind]
 refine wpAny_bind (wpAny_pure ?_)
 show wpAny _ _ (call (.builtin "tuple.__getattribute__") [.ref a,.str (Str.ofString "keys") t]) _ _ _
 refine wpAny_call_entry slot_ga ht entry_ga ?_ (args_ga _ _)
 refine ga_body (s:=⟨h,g,d,t+1,os⟩) hh ho fun e h' t' he kp=>?_
 obtain ⟨o,e1,e2⟩:=he
 have ae:∀ t'',Shared.TypeIs ⟨h',g,d,t'',os⟩ (.ref e) "AttributeError" := fun _=>⟨o,e1,e2⟩
 show wpAny _ _ (getattributeRaised _ _ _ _ _ _ _) _ _ _
 unfold getattributeRaised
 refine wpAny_bind (wpAny_isInstance (T:="AttributeError") (b:=true) (ae _) (by rw [isSubtype_type]; kernel_rfl) ?_)
 simp only [if_true]
 rw [show hookBehind (Value.type "tuple") none=typeLookup (.type "tuple") (Str.ofString "__getattr__") from rfl,tl3]
 refine wpAny_bind (wpAny_pure ?_)
 unfold hookOrError
 simp only []
 unfold attributeErrorLeaves
 simp only [Bool.not_false,if_true]
 refine wpAny_bind (wpAny_throw ?_)
 refine wpAny_bind (wpAny_isInstance (T:="AttributeError") (b:=true) (ae _) (by rw [isSubtype_type]; kernel_rfl) ?_)
 simp only [if_true]
 exact wpAny_pure (hq h' t' kp)
theorem loop_entry:entryFor table "dict.update.loop" = some Builtin.«dict.update.loop»:=entryFor_of_tree (by kernel_rfl)
theorem loop_plain:plainId "dict.update.loop" = true:=by decide +kernel
section
variable {prog:Program} {w:World} {K:Type} [DecidableEq K] {knd:PySem.KeyKind prog w K}
def Prs (knd:PySem.KeyKind prog w K) (h:Heap) (its:Array Value) (rs:List (K × Value)):Prop :=
 its.size=rs.length/\∀ (j:Nat) (k:K) (v:Value),rs[j]?=some (k,v)->∃ p u,its[j]?=some (.ref p)/\IsTup h p #[u,v]/\knd.is k u=true
def stK (rs:List (K × Value)) (i:Nat):List (K × Value):=(rs.take i).foldl (fun acc kv=>stored acc kv.1 kv.2) []
theorem stored_len (kvs:List (K × Value)) (k:K) (v:Value):(stored kvs k v).length<=kvs.length+1:=by
 unfold stored
 split
 ·rw [List.length_map]; omega
 ·rw [List.length_append]; simp
theorem stK_succ {rs:List (K × Value)} {i:Nat} {k:K} {v:Value} (h:rs[i]?=some (k,v)):stK rs (i+1)=stored (stK rs i) k v:=by
 unfold stK
 rw [List.take_succ,h]
 simp
theorem stK_len (rs:List (K × Value)):∀ i,(stK rs i).length<=i
 | 0=>by simp [stK]
 | i+1=>by
  cases h:rs[i]? with
  | none =>
   have:=stK_len rs i
   unfold stK at this ⊢
   rw [List.take_succ,h]
   simp only [Option.toList_none,List.append_nil]
   omega
  | some p =>
   obtain ⟨k,v⟩:=p
   rw [stK_succ h]
   have:=stK_len rs i
   have:=stored_len (stK rs i) k v
   omega
variable {A:Around} {R:Result->Shared->Prop} {E:Value->Shared->Prop} {s:Shared} {d it t:Addr} {its:Array Value} {rs:List (K × Value)}
theorem loop (hh:A.handled=none) (hdi:d≠it) (htd:t≠d) (hti:t≠it) (hz:rs.length<=sizeLine) {h₁:Heap} (ht:h₁.IsTuple t its) (hp:Prs knd h₁ its rs) (hpd:∀ (p:Addr),.ref p∈its.toList->p≠d/\p≠it)
  (fin:∀ h' tk,(∀ b o,b≠d->b≠it->h₁.get? b=some o->h'.get? b=some o)->h'.DictOf knd d (stK rs rs.length)->R (.ok (.ret .none)) { s with heap:=h',toks:=tk }) :
  ∀ (k i:Nat) (h:Heap) (tk:Nat),rs.length - i=k->i<=rs.length->(∀ b o,b≠d->b≠it->h₁.get? b=some o->h.get? b=some o)->h.IsTupleIter it t i->h.DictOf knd d (stK rs i) ->
   codeAny (model prog w) A (.builtin "dict.update.loop" ⟨[.ref d,.ref it,rawInt i,.none],[]⟩) R { s with heap:=h,toks:=tk }:=by
 intro k
 induction k with
 | zero =>
  intro i h tk hk hi kp st dd
  have ei:i=rs.length:=by omega
  subst ei
  refine codeAny_builtin loop_entry ?_
  rw [Around.under_plainId loop_plain _]
  change wpAny _ A.in1 (pyNext (.ref it) >>= _) _ _ _
  refine wpAny_bind (wpAny_pyNext_tuple_end (s:={ s with heap:=h,toks:=tk }) (A:=A.in1) hh st (ht.aT fun o e=>kp _ o htd hti e) (Array.getElem?_eq_none (by rw [hp.1]; exact Nat.le_refl _)) fun h' ext=>?_)
  change wpAny _ A.in1 (Builtin.Dict.addKeywords d [] >>= _) _ _ _
  refine wpAny_bind (m:=Builtin.Dict.addKeywords d []) ?_
  unfold Builtin.Dict.addKeywords
  simp only [List.forIn_nil]
  refine wpAny_bind (wpAny_pure (wpAny_pure (wpAny_pure ?_)))
  refine fin h' tk (fun b o n1 n2 e=>ext b o n2 (kp b o n1 n2 e)) ?_
  obtain ⟨o,es,ep,e1,r⟩:=dd
  exact ⟨o,es,ep,ext d o hdi e1,r⟩
 | succ k ih =>
  intro i h tk hk hi kp st dd
  have hlt:i<rs.length:=by omega
  obtain ⟨⟨kk,vv⟩,hkv⟩:∃ p,rs[i]?=some p:=⟨rs[i],List.getElem?_eq_getElem hlt⟩
  obtain ⟨p,u,ep,tp,ku⟩:=hp.2 i kk vv hkv
  have np:=hpd p (by rw [<-Array.mem_def]; exact Array.mem_of_getElem? ep)
  refine codeAny_builtin loop_entry ?_
  rw [Around.under_plainId loop_plain _]
  change wpAny _ A.in1 (pyNext (.ref it) >>= _) _ _ _
  refine wpAny_bind (wpAny_pyNext_tuple_item (s:={ s with heap:=h,toks:=tk }) (A:=A.in1) st (ht.aT fun o e=>kp _ o htd hti e) ep fun h' st' sb=>?_)
  have tp':IsTup h' p #[u,vv]:=let ⟨o,e1,e2⟩:=tp; ⟨o,sb.extBut _ _ np.2 (kp _ _ np.1 np.2 e1),e2⟩
  have dd':h'.DictOf knd d (stK rs i):=let ⟨o,es,ep,e1,r⟩:=dd; ⟨o,es,ep,sb.extBut _ _ hdi e1,r⟩
  simp only []
  refine wpAny_bind (wpAny_holding (wpAny_bind (wpAny_tryCatch ?_)))
  unfold Builtin.Dict.pairItems
  refine wpAny_bind (wpAny_typeOf (T:="tuple") tp'.typeIs ?_)
  simp only [show (Value.type "tuple" == Value.type "list" || Value.type "tuple" == Value.type "tuple")=true from by decide,if_true]
  obtain ⟨o,e1,e2,n,e3⟩:=id tp'
  refine wpAny_bind (m:=seqItems? (.ref p)) ?_
  unfold seqItems?
  simp only []
  refine wpAny_bind (wpAny_load e1 ?_)
  rw [e3]
  refine wpAny_pure (wpAny_pure ?_)
  show wpAny _ _ (holding [u,vv] (dictSet d u vv)) _ _ _
  refine wpAny_holding ?_
  refine wpAny_dictSet_pairs (hsz:=Nat.le_trans (stK_len rs i) (Nat.le_trans hi hz)) ku dd' fun h2 dd2 sb2=>?_
  refine wpAny_pure ⟨plainId_quiet loop_plain _, ?_⟩
  refine ih (i+1) h2 _ (by omega) hlt (fun b o n1 n2 e=>sb2.extBut _ _ n1 (sb.extBut _ _ n2 (kp b o n1 n2 e))) (st'.xB sb2.extBut hdi.symm) ?_
  rw [stK_succ hkv]
  exact dd2
theorem call_pairs {Q:Value->Shared->Prop} (hh:A.handled=none) {n:Nat} {sl:Array (Option Value)} (ho:s.heap.get? t=some ⟨.type "tuple",none,.seq its n,sl⟩) (hp:Prs knd s.heap its rs) (hz:rs.length<=sizeLine)
  (hl:∀ (p:Addr),.ref p∈its.toList->p<s.heap.objs.size)
  (fin:∀ h' tk,(∀ b o,s.heap.get? b=some o->h'.get? b=some o)->h'.DictOf knd s.heap.objs.size (stK rs rs.length)->Q (.ref s.heap.objs.size) { s with heap:=h',toks:=tk }) :
  wpAny (model prog w) A (call (.type "dict") [.ref t]) Q E s:=by
 have lt:∀ {c o},s.heap.get? c=some o->c≠s.heap.objs.size:=fun e=>Nat.ne_of_lt (Heap.lt_size e)
 have pu:∀ {c o},s.heap.get? c=some o->(s.heap.push { cls:=.type "dict",data:=.dict #[] }).get? c=some o:=fun e=>Heap.get?_push_of_some _ e
 refine callType_codes (Q₁:=fun obj s₁=>obj=.ref s.heap.objs.size/\s₁={ s with heap:=s.heap.push { cls:=.type "dict",data:=.dict #[] } }) F.kt_called_dict (F.kt_typeCall_dict_1 _) F.entry_dict_init
  (kt_code_dict_new _ ⟨rfl,rfl⟩) fun obj s₁ q=>?_
 obtain ⟨rfl,rfl⟩:=q
 have Va:(s.heap.push { cls:=.type "dict",data:=.dict #[] }).get? s.heap.objs.size=some { cls:=.type "dict",data:=.dict #[] }:=Heap.get?_push_size _ rfl
 refine ⟨⟨_,Va,rfl⟩,F.args_dict_init_2 _ _, ?_⟩
 have ty:Shared.TypeIs { s with heap:=s.heap.push { cls:=.type "dict",data:=.dict #[] } } (.ref s.heap.objs.size) "dict" := ⟨_,Va,rfl⟩
 unfold Builtin.«dict.__init__»
 unfold Builtin.Dict.selfAndRest
 refine wpAny_bind (wpAny_bind (wpAny_notOrdered_dict ty ?_))
 refine wpAny_bind (m:=Builtin.Dict.addrOf (.ref s.heap.objs.size)) (wpAny_pure (wpAny_pure ?_))
 show wpAny _ _ (Builtin.Dict.updateFrom "dict.__init__" s.heap.objs.size (.ref t) [] .none) _ _ _
 unfold Builtin.Dict.updateFrom
 refine wpAny_bind (wpAny_typeOf (T:="tuple") ⟨_,pu ho,rfl⟩ ?_)
 simp only [show (Value.type "tuple" != Value.type "dict")=true from by decide,if_true]
 refine wpAny_bind (keys_none (s:={ s with heap:=s.heap.push { cls:=.type "dict",data:=.dict #[] } }) (A:=A.in1.in1) hh (pu ho) fun h2 t2 k2=>?_)
 simp only [Option.isNone_none,if_true]
 refine wpAny_bind (wpAny_rule ?_)
 have tu:Heap.IsTuple h2 t its:=⟨_,k2 _ _ (pu ho),rfl,n,rfl⟩
 refine wpAny_bind (wpAny_pyIter_tuple (s:={ s with heap:=h2,toks:=t2 }) tu ?_)
 have lt2:∀ {c o},h2.get? c=some o->c≠h2.objs.size:=fun e=>Nat.ne_of_lt (Heap.lt_size e)
 have at2:=k2 _ _ Va
 have sz2:s.heap.objs.size<h2.objs.size:=Heap.lt_size at2
 refine wpAny_pure ⟨plainId_quiet loop_plain _, ?_⟩
 have kp3:∀ b o,h2.get? b=some o->(h2.push { cls:=.type "tuple_iterator",data:=.fields #[.ref t,.int 0 0] }).get? b=some o:=fun b o e=>Heap.get?_push_of_some _ e
 refine loop (knd:=knd) (s:=s) (A:=A.in1) (d:=s.heap.objs.size) (it:=h2.objs.size) (t:=t) hh (Nat.ne_of_lt sz2) (lt ho) (lt2 (k2 _ _ (pu ho))) hz (h₁:=h2.push { cls:=.type "tuple_iterator",data:=.fields #[.ref t,.int 0 0] }) (tu.aT fun o e=>kp3 _ o e) ⟨hp.1,fun j k v e=>?_⟩ (fun p hm=>⟨Nat.ne_of_lt (hl p hm),Nat.ne_of_lt (Nat.lt_trans (hl p hm) sz2)⟩) (fun h' tk kp dd=>?_) _ 0 _ t2 rfl (Nat.zero_le _) (fun b o _ _ e=>e) ⟨_,Heap.get?_push_size _ rfl,rfl,rfl⟩ ?_
 ·obtain ⟨p,u,e1,tp,ku⟩:=hp.2 j k v e
  exact ⟨p,u,e1,let ⟨o,a1,a2⟩:=tp; ⟨o,kp3 _ _ (k2 _ _ (pu a1)),a2⟩,ku⟩
 ·refine ⟨rfl,fin h' tk (fun b o e=>kp b o (lt e) (lt2 (k2 _ _ (pu e))) (kp3 _ _ (k2 _ _ (pu e)))) dd⟩
 ·exact ⟨_, #[],_,kp3 _ _ at2,⟨rfl,rfl,rfl⟩,rfl,fun e he=>by simp at he,.nil,List.nodup_nil⟩
end
end DicP2
namespace L2
open PySem PySem.Spec PyProof.Rows
section
variable {X:Cx} {pins:List (Addr × Obj)} {σ:St} {H:Hp} {s:Shared}
theorem Zs.lay2 {h':Heap} {D:Addr} {u:HO} {t':Nat} (I:Zs X pins σ H s) {m:Str->Option Value} (hn:s.heap.Ns X.env.locals m) (hn':h'.Ns X.env.locals m) (ka:∀ b o,b≠X.env.locals->s.heap.get? b=some o->h'.get? b=some o) (nD:s.heap.get? D=none)
  (new:Yu X.prog X.w (Z3 H D u) h' D u):Zs X pins σ (Z3 H D u) { s with heap:=h',toks:=t' }/\H D=none:=by
 have fD:H D=none:=by
  cases eo:H D with
  | none=>rfl
  | some u =>
   obtain ⟨o,e⟩:=(I.hok D u eo).has
   rw [e] at nD; cases nD
 refine ⟨?_,fD⟩
 have ne:∀ {b:Addr} {o:Obj},s.heap.get? b=some o->b≠D:=fun {b o} e z=>by rw [z,nD] at e; cases e
 have neH:∀ {b:Addr} {u:HO},H b=some u->b≠D:=fun {b u} e z=>by rw [z,fD] at e; cases e
 refine I.step (h':=h') (g':=s.gens) (d':=s.drawn) (t':=t') (ch:=[]) (H':=Z3 H D u) (fun _ z=>nomatch z)
  (fun b o nl _ _ e _=>ka b o nl e) (fun b o nl _ _ e _=>⟨o.slots,ka b o nl e⟩) (fun b o _ e n=>by rw [Zk (ne e)]; exact n) (fun b o _ e=>?_) (fun b xs e=>by rw [Zk (neH e)]; exact e) (fun b o u e=>by rw [Zk (neH e)]; exact e) (fun b qs e=>⟨#[],by rw [Zk (neH e),e]; simp⟩) (fun m' hm=>?_) (fun b v e=>?_) I.bare
 ·by_cases z:b=X.env.locals
  ·obtain ⟨o2,_,_,e2,_⟩:=hn'
   exact ⟨o2,by rw [z]; exact e2⟩
  ·exact ⟨o,ka b o z e⟩
 ·have em:m'=m:=by
   obtain ⟨o2,es,ep,e2,d2,_,r2⟩:=hm
   obtain ⟨o3,es3,ep3,e3,d3,_,r3⟩:=hn
   rw [e2] at e3; cases e3
   rw [d2] at d3; cases d3
   exact funext fun x=>(r2 x).symm.trans (r3 x)
  rw [em]
  exact hn'
 ·by_cases z:b=D
  ·subst z
   rw [Zz] at e; cases e
   exact new
  ·rw [Zk z] at e
   refine (I.hok b v e).stay (fun d v hd q=>ka d v ?_ q) (fun d q=>by rw [Zk (neH q)]; exact q) fun d xs q=>by rw [Zk (neH q)]; exact q
   rcases hd with rfl | hd
   ·exact fun zz=>by rw [zz,I.free] at e; cases e
   ·exact fun zz=>by rw [zz,I.free] at hd; cases hd
theorem Zs.frame (I:Zs X pins σ H s):∃ m,s.heap.Ns X.env.locals m/\Fr (lowH s.heap X.env.locals) X.env.locals s.heap m/\News (lowH s.heap X.env.locals) X.env.locals s.heap (newsH s.heap X.env.locals):=by
 obtain ⟨m,hn,_⟩:=id I.loc
 have lsz:(lowH s.heap X.env.locals).objs.size<=X.env.locals:=by
  show (s.heap.objs.extract 0 X.env.locals).size<=_
  rw [Array.size_extract]; omega
 refine ⟨m,hn,⟨hn,fun b o e=>(lowH_of e).1,lsz⟩,fun p hp=>?_⟩
 obtain ⟨b,o⟩:=p
 obtain ⟨h1,h2⟩:=newsH_mem.mp hp
 refine ⟨h2,Nat.ne_of_gt h1, ?_⟩
 cases z:(lowH s.heap X.env.locals).get? b with
 | none=>rfl
 | some o'=>exact absurd (lowH_of z).2 (Nat.lt_asymm h1)
theorem Zs.newAt {h':Heap} {D:Addr} {o:Obj} {m:Str->Option Value} (n':News (lowH s.heap X.env.locals) X.env.locals h' ((D,o)::newsH s.heap X.env.locals)) (hD:∀ q∈newsH s.heap X.env.locals,q.1<D):s.heap.get? D=none:=by
 obtain ⟨_,nDL,lD⟩:=n' (D,o) List.mem_cons_self
 cases eo:s.heap.get? D with
 | none=>rfl
 | some o =>
  exfalso
  rcases Nat.lt_trichotomy D X.env.locals with y | y | y
  ·rw [lowH_get eo y] at lD; cases lD
  ·exact nDL y
  ·exact absurd (hD (D,o) (newsH_mem.mpr ⟨y,eo⟩)) (Nat.lt_irrefl _)
theorem intsAre_keys {P:Program} {w:World}:∀ {zs:List Int} {vs:List Value} {kvs:List (Yt × Value)},kvs.map (·.1)=zs.map Sum.inl->vs.length=kvs.length->(∀ (j:Nat) (v:Value),vs[j]?=some v->∃ k x,kvs[j]?=some (k,x)/\(Z8 P w).is k v=true)->IntsAre vs zs
 | [],vs,kvs,e,l,_=>by
  cases kvs with
  | nil=>cases vs with
   | nil=>exact .nil
   | cons _ _=>simp at l
  | cons _ _=>simp at e
 | z::zs,vs,kvs,e,l,h=>by
  cases kvs with
  | nil=>simp at e
  | cons p r =>
   cases vs with
   | nil=>simp at l
   | cons v vs =>
    rw [List.map_cons,List.map_cons] at e
    injection e with e1 e2
    obtain ⟨k,x,ek,iv⟩:=h 0 v rfl
    have ek:p=(k,x):=by simpa using ek
    subst ek
    have e1:k=Sum.inl z:=e1
    subst e1
    rcases Ym (show keyIs (Sum.inl z) v=true from iv) with ⟨j,t,ej,rfl⟩ | ⟨y,t,ej,rfl⟩
    ·cases ej
     exact .cons _ _ (intsAre_keys e2 (by simpa using l) fun j v hv=>h (j+1) v hv)
    ·cases ej
theorem call_sortedD (hc:X.calm=true):CallR X (.builtin "sorted") (fun xs H Q=>∃ (a:Addr) (kvs:List (Yt × V)) (zs:List Int),xs=[.ref a]/\Rd H a (.dK kvs)/\kvs.map (·.1)=zs.map Sum.inl/\zs.length<64 /\
  ∀ (l:Addr) (ns:List Int),H l=none->ns.Perm zs->ns.Pairwise (·<=·)->Q (.ref l) (Z3 H l (.lst (ns.map V.int)))):=by
 intro pins s σ H xs us Q I r h
 obtain ⟨a,kvs,zs,rfl,hq,hk,hz,q⟩:=h
 obtain ⟨u,rfl,rx⟩:=vals1 r
 cases rx
 obtain ⟨z,hd,ws,rel,dd⟩:=dk_rd I.hok hq
 obtain ⟨ep,da⟩:=dd.dictAt
 obtain ⟨m,hn,fr,nw⟩:=I.frame
 have wl:ws.length=zs.length:=by
  rw [<-rel.length, <-List.length_map (·.1),hk,List.length_map]
 refine W.kdu_sorted (W.kdl_dict (knd:=Z8 X.prog X.w) (ep:=ep) hd) (I.ok.hd hc) fr nw da (by rw [<-rel.length]; exact z) fun D h' tk vs f' n' hD vl hv=>?_
 have hI:IntsAre vs zs:=intsAre_keys (by rw [<-rel.keys]; exact hk) vl hv
 have ka:=keepAll f' n' fun p hp=>List.mem_cons_of_mem _ hp
 have nD:=Zs.newAt (X:=X) (m:=m) n' hD
 obtain ⟨eD,nDL,_⟩:=n' _ List.mem_cons_self
 have Va:h'.get? D=some (seqObj "list" vs.toArray 0):=eD
 refine wpAny_call_entry slot_list_sort ⟨_,Va,rfl⟩ entry_list_sort ?_ (args_list_sort _)
 refine list_sort_tree (s:={ heap:=h',gens:=s.gens,drawn:=s.drawn,toks:=tk,os:=s.os }) Va hI (by rw [vl,wl]; exact hz) fun out ns q1 q2 q3=>⟨_,rfl, ?_⟩
 obtain ⟨n,e⟩:=sortedHeap_at (h:=h') (a:=D) (vs:=vs) (n:=0) (out:=out) Va
 have ks:∀ b o,b≠D->h'.get? b=some o->(sortedHeap h' D vs out).get? b=some o:=fun b o nb eb=>SetM.sortedHeap_keep nb eb
 have neD:∀ {b:Addr} {o:Obj},s.heap.get? b=some o->b≠D:=fun {b o} e z=>by rw [z,nD] at e; cases e
 have hlen:(ns.map V.int).length<=sizeLine:=by
  rw [List.length_map,q2.length_eq]
  exact Nat.le_of_lt (Nat.lt_trans hz (by decide))
 obtain ⟨J,fD⟩:=I.lay2 (h':=sortedHeap h' D vs out) (D:=D) (u:=.lst (ns.map V.int)) (t':=tk) hn (ns_keep f'.ns fun o e=>ks _ o (fun z=>nDL z.symm) e) (fun b o nb eb=>ks b o (neD eb) (ka b o nb eb)) nD ⟨hlen,out.toList,n,vals_ints q1,by simpa using e⟩
 exact ⟨.ref D,_,J,rfl,q D ns fD q2 q3⟩
end
theorem lift_rel {P:Nat->Yt->Value->Prop}:∀ {kvs:List (Yt × V)} (o:Nat),(∀ j k v,kvs[j]?=some (k,v)->∃ w,Z2 v w/\P (o+j) k w)->∃ rs,KV kvs rs/\∀ j k w,rs[j]?=some (k,w)->P (o+j) k w
 | [],o,_=>⟨[],.nil,fun j k w e=>by simp at e⟩
 | (k,v)::kvs,o,h=>by
  obtain ⟨w,rw',pw⟩:=h 0 k v rfl
  obtain ⟨rs,kv,pr⟩:=lift_rel (P:=P) (kvs:=kvs) (o+1) fun j k' v' e=>by
   obtain ⟨w',a,b⟩:=h (j+1) k' v' e
   exact ⟨w',a,by rw [Nat.add_assoc,Nat.add_comm 1 j]; exact b⟩
  refine ⟨(k,w)::rs,.cons ⟨rfl,rw'⟩ kv,fun j k' w' e=>?_⟩
  cases j with
  | zero =>
   have e':(k,w)=(k',w'):=by simpa using e
   cases e'; exact pw
  | succ j =>
   have:=pr j k' w' (by simpa using e)
   rw [Nat.add_assoc,Nat.add_comm 1 j] at this
   exact this
def foldP (kvs:List (Yt × V)):List (Yt × V):=kvs.foldl (fun acc kv=>putK acc kv.1 kv.2) []
theorem kv_fold:∀ {kvs:List (Yt × V)} {rs:List (Yt × Value)} {a:List (Yt × V)} {b:List (Yt × Value)},KV kvs rs->KV a b->KV (kvs.foldl (fun acc kv=>putK acc kv.1 kv.2) a) (rs.foldl (fun acc kv=>stored acc kv.1 kv.2) b)
 | _,_,_,_,.nil,h=>h
 | (k,v)::kvs,(k',v')::rs,_,_,.cons r t,h=>by
  have e:k=k':=r.1
  subst e
  rw [List.foldl_cons,List.foldl_cons]
  exact kv_fold (kvs:=kvs) (rs:=rs) t (h.put k r.2)
theorem foldP_len:∀ (kvs a:List (Yt × V)),(kvs.foldl (fun acc kv=>putK acc kv.1 kv.2) a).length<=a.length+kvs.length
 | [],a=>by simp
 | p::kvs,a=>by
  have:=foldP_len kvs (putK a p.1 p.2)
  have:=length_putK a p.1 p.2
  rw [List.foldl_cons,List.length_cons]
  omega
section
variable {X:Cx}
theorem call_dictPairs (hc:X.calm=true):CallR X (.type "dict") (fun xs H Q=>∃ (a:Addr) (ys:List V) (kvs:List (Yt × V)),xs=[.ref a]/\Z6 X.K H a ys/\ys.length=kvs.length/\(∀ (j:Nat) (k:Yt) (v:V),kvs[j]?=some (k,v)->∃ p,ys[j]?=some (.ref p)/\Z6 X.K H p [kV k,v]) /\
  ∀ D,H D=none->Q (.ref D) (Z3 H D (.dK (foldP kvs)))):=by
 intro pins s σ H xs us Q I r h
 obtain ⟨a,ys,kvs,rfl,sq,hl,hp,q⟩:=h
 obtain ⟨u,rfl,rx⟩:=vals1 r
 cases rx
 obtain ⟨its,rv,⟨o,e1,e2,⟨n,e3⟩,e4⟩,hz⟩:=I.tupleN sq
 obtain ⟨oc,od,dt,sl⟩:=o
 obtain rfl:oc=_:=e2
 obtain rfl:dt=_:=e3
 obtain rfl:od=none:=e4
 obtain ⟨rs,kv,pr⟩:=lift_rel (P:=fun j k w=>∃ p u,its.toArray[j]?=some (.ref p)/\IsTup s.heap p #[u,w]/\(Z8 X.prog X.w).is k u=true) (kvs:=kvs) 0 fun j k v e=>by
  obtain ⟨p,ep,sp⟩:=hp j k v e
  obtain ⟨jts,jr,tp,_⟩:=I.tuple sp
  cases jr with
  | cons j1 j2=>cases j2 with
   | cons j2 j3 =>
    cases j3
    obtain ⟨w,ew,rw'⟩:=rv.get ep
    cases (show w=Value.ref p from rw')
    exact ⟨_,j2,p,_,by simpa using ew,tp,kV_is j1⟩
 have lr:its.toArray.size=rs.length:=by rw [List.size_toArray, <-rv.length,hl,kv.length]
 have pr':∀ (j:Nat) (k:Yt) (w:Value),rs[j]?=some (k,w)->∃ p u,its.toArray[j]?=some (.ref p)/\IsTup s.heap p #[u,w]/\(Z8 X.prog X.w).is k u=true:=fun j k w e=>by
  have:=pr j k w e
  rw [Nat.zero_add] at this
  exact this
 have kz:kvs.length<=sizeLine:=by rw [<-hl]; exact hz
 refine DicP2.call_pairs (knd:=Z8 X.prog X.w) (rs:=rs) (I.ok.hd hc) e1 ⟨lr,pr'⟩ (by rw [<-kv.length]; exact kz) (fun p hm=>?_) fun h' tk kp dd=>?_
 ·obtain ⟨j,hj⟩:=List.mem_iff_getElem?.mp hm
  have hjl:j<rs.length:=by
   rw [<-lr]
   have:=(List.getElem?_eq_some_iff.mp hj).1
   simpa using this
  obtain ⟨p',u,a1,tp,_⟩:=pr' j _ _ (List.getElem?_eq_getElem hjl)
  have:Value.ref p=Value.ref p':=Option.some.inj ((show its.toArray[j]?=some (.ref p) by simpa using hj).symm.trans a1)
  cases this
  exact tp.lt
 ·refine ⟨.ref s.heap.objs.size,_,I.laid (o:=.dK (foldP kvs)) (t':=tk) kp (Nat.le_refl _) (dk_new ?_ (beq_eq_false_iff_ne.mpr (Ne.symm (Nat.ne_of_lt I.big))) (vs:=DicP2.stK rs rs.length) ?_ dd),rfl,q _ (I.hok.fresh (Nat.le_refl _))⟩
  ·have:=foldP_len kvs []
   unfold foldP
   simp only [List.length_nil,Nat.zero_add] at this
   omega
  ·unfold DicP2.stK foldP
   rw [List.take_length]
   exact kv_fold kv .nil
end
section
variable {X:Cx} {pins:List (Addr × Obj)} {σ:St} {H:Hp} {s:Shared}
def rInD (K:W.Frag) (A:Around):R2:=fun x y H Q=>∃ p xs d ds,y=.ref p/\Z0 K H p xs/\Vu K H d x/\Yd K H ds xs/\(∀ e∈ds,A.units+dpD e+10<cLine)/\Q (.bl (ds.any fun e=>eqD e d)) H
theorem op_inD:OpR X (compareOp .In) (rInD X.K X.A):=by
 intro pins s σ H x y v u Q I rx ry h
 obtain ⟨p,xs,d,ds,rfl,hq,hd,ar,hu,q⟩:=h
 cases ry
 obtain ⟨its,r,pl,hz⟩:=I.list hq
 have l1:=ar.length
 have l2:=r.length
 classical
 have at_:∀ {i:Nat} {w:Value},its[i]?=some w->∃ dy xi,ds[i]?=some dy/\xs[i]?=some xi/\Vu X.K H dy xi/\Z2 xi w:=fun {i w} hw=>by
  have hi:=(List.getElem?_eq_some_iff.mp hw).1
  obtain ⟨dy,hdy⟩:∃ dy,ds[i]?=some dy:=⟨_,List.getElem?_eq_getElem (by omega)⟩
  obtain ⟨xi,hxi,dd⟩:=ar.get hdy
  obtain ⟨w',hw',rr⟩:=r.get hxi
  rw [hw] at hw'
  cases hw'
  exact ⟨dy,xi,hdy,hxi,dd,rr⟩
 have key:∀ {i:Nat} {w:Value} {dy:D},its[i]?=some w->ds[i]?=some dy->decide (∃ (j:Nat) (dj:D),its[j]?=some w/\ds[j]?=some dj/\eqD dj d=true)=eqD dy d:=fun {i w dy} hw hdy=>by
  cases e:eqD dy d with
  | true=>exact decide_eq_true ⟨i,dy,hw,hdy,e⟩
  | false =>
   refine decide_eq_false fun ⟨j,dj,h1,h2,h3⟩=>?_
   obtain ⟨da,xa,a1,a2,a3,a4⟩:=at_ hw
   obtain ⟨db,xb,b1,b2,b3,b4⟩:=at_ h1
   rw [hdy] at a1
   rw [h2] at b1
   cases a1
   cases b1
   have:=a4.inj b4
   subst this
   rw [Vu.inj I _ _ _ a3 b3,h3] at e
   cases e
 refine SeqAt.in_listAt (fun w=>decide (∃ (j:Nat) (dj:D),its[j]?=some w/\ds[j]?=some dj/\eqD dj d=true)) pl.isList (fun w hw=>?_) ⟨.bl _,H,I,rfl, ?_⟩
 ·obtain ⟨i,hi⟩:=List.getElem?_of_mem (show w∈its by simpa using hw)
  obtain ⟨dy,xi,a1,a2,a3,a4⟩:=at_ hi
  have:=hu dy (List.mem_of_getElem? a1)
  show SeqAt.EqAt X.A.in1 s w v (decide _)
  rw [key hi a1]
  exact eqAt_D I dy d xi x w v X.A.in1 a3 hd a4 rx (by show X.A.units+1+dpD dy<cLine; omega) (by show X.A.units+1<cLine; omega)
 ·have e:(its.toArray.any fun w=>decide (∃ (j:Nat) (dj:D),its[j]?=some w/\ds[j]?=some dj/\eqD dj d=true))=ds.any fun e=>eqD e d:=by
   rw [Bool.eq_iff_iff]
   simp only [List.any_toArray,List.any_eq_true,decide_eq_true_eq]
   constructor
   ·rintro ⟨w,hw,j,dj,h1,h2,h3⟩
    exact ⟨dj,List.mem_of_getElem? h2,h3⟩
   ·rintro ⟨dj,hm,h3⟩
    obtain ⟨j,hj⟩:=List.getElem?_of_mem hm
    have hl:=(List.getElem?_eq_some_iff.mp hj).1
    obtain ⟨w,hw⟩:∃ w,its[j]?=some w:=⟨_,List.getElem?_eq_getElem (by omega)⟩
    exact ⟨w,List.mem_of_getElem? hw,j,dj,hw,hj,h3⟩
  rw [e]
  exact q
end
end L2
namespace K24
open PySem PySem.Spec PyProof.Rows L2 K01
theorem b_len:bootBuiltins "len" = some (.builtin "len"):=by decide +kernel
theorem b_min:bootBuiltins "min" = some (.builtin "min"):=by decide +kernel
theorem Ya:bootBuiltins "tuple" = some (.type "tuple"):=by decide +kernel
theorem b_list:bootBuiltins "list" = some (.type "list"):=by decide +kernel
theorem b_set:bootBuiltins "set" = some (.type "set"):=by decide +kernel
theorem b_int:bootBuiltins "int" = some (.type "int"):=by decide +kernel
theorem b_dict:bootBuiltins "dict" = some (.type "dict"):=by decide +kernel
theorem b_sorted:bootBuiltins "sorted" = some (.builtin "sorted"):=by decide +kernel
theorem b_repr:bootBuiltins "repr" = some (.builtin "repr"):=by decide +kernel
structure Bn (mg:Str->Option Value):Prop where
 len:mg "len" = none
 all:mg "all" = none
 any:mg "any" = none
 max:mg "max" = none
 min:mg "min" = none
 isinstance:mg "isinstance" = none
 tuple:mg "tuple" = none
 list:mg "list" = none
 set:mg "set" = none
 int:mg "int" = none
 str:mg "str" = none
 bool:mg "bool" = none
 dict:mg "dict" = none
 range:mg "range" = none
 zip:mg "zip" = none
 enumerate:mg "enumerate" = none
 sorted:mg "sorted" = none
 repr:mg "repr" = none
theorem Z5 {b:Bool} {A B:Prop} (h:b=false) (q:B):if b=true then A else B:=by subst h; exact iteF q
theorem Yh {b:Bool} {A B:Prop} (h:b=true) (q:A):if b=true then A else B:=by subst h; exact iteT q
abbrev s_law_feed:Stmt:=top 8
abbrev N_law_feed:List Str:=["_law_script"]
theorem sc_law_feed:Yk N_law_feed ["_law_script"] (Zf s_law_feed):=by trivial
abbrev s_law_draw:Stmt:=top 9
abbrev N_law_draw:List Str:=["_law_feed_here","_law_many","_law_turn","_law_cell","_law_mixed","_law_digit"]
theorem Vs:Yk N_law_draw ["_law_feed_here","_law_many"] (Zf s_law_draw):=by trivial
def spFeed (K:W.Frag):Sp:=fun vs H Q _=>∃ (a:Addr) (ns:List Int),vs=[.ref a]/\Z0 K H a (ns.map V.int)/\ns.length<=63/\∀ (l:Addr) (H':Hp),Zv H H'->H l=none->Fd 1000000000000 H' l->Q (.ref l) H'
def spDraw:Sp:=fun vs H Q _=>∃ (l:Addr) (m:Int) (r:Nat),vs=[.ref l,.int m]/\Fd (r+1) H l/\0<m/\m<1073741824/\∀ (x:Int) (H':Hp),0<=x->x<m->Y5 l r H H'->Q (.int x) H'
theorem pickS (ss:List Str) {r:Int} (h0:0<=r) (h1:r<ss.length):∃ x,x∈ss/\atI (ss.map V.str) r=some (.str x):=by
 have hj:r.toNat<ss.length:=by omega
 refine ⟨ss[r.toNat],List.getElem_mem hj, ?_⟩
 have z:atI (ss.map V.str) ((r.toNat:Nat):Int)=some (.str ss[r.toNat]):=Y8 (by rw [List.getElem?_map,List.getElem?_eq_getElem hj]; rfl)
 rw [show ((r.toNat:Nat):Int)=r by omega] at z
 exact z
theorem pickI (ns:List Int) {r:Int} (h0:0<=r) (h1:r<ns.length):∃ n,n∈ns/\atI (ns.map V.int) r=some (.int n):=by
 have hj:r.toNat<ns.length:=by omega
 refine ⟨ns[r.toNat],List.getElem_mem hj, ?_⟩
 have z:atI (ns.map V.int) ((r.toNat:Nat):Int)=some (.int ns[r.toNat]):=Y8 (by rw [List.getElem?_map,List.getElem?_eq_getElem hj]; rfl)
 rw [show ((r.toNat:Nat):Int)=r by omega] at z
 exact z
theorem cut_all (ws:List V) {k:Nat} (h:ws.length<=k):cutV ws none (some (k:Int))=ws:=by
 unfold cutV
 rw [HT.sIx_nat,HT.sIx_none,List.drop_zero,Nat.sub_zero,Nat.min_eq_right h,List.take_length]
section
variable {P:Program} {w:World} {K:W.Frag} {mg:Str->Option Value} {base:Heap} {f:Addr} {fd:FuncData}
theorem ok_feed (F:Fun K "_law_feed" "_law_feed" s_law_feed f fd) (m:Bn mg):Y4 P w K mg base CX0 1 f fd ["_law_script"] (spFeed K):=by
 refine F.ok sc_law_feed (fun vs H Q E h=>?_) (fun cdv A outer s H vs Q E hr h=>?_)
 ·obtain ⟨a,ns,rfl,_⟩:=h
  rfl
 obtain ⟨a,ns,rfl,hS,h63,q⟩:=h
 refine ⟨_,(@Zb _ _ _ (@Zp _ _ _ _ (@Z7 _ _ _ _ (Zg (@Yx _ _ _ _ _ _ _ _ op_cat (@Ze _ _ _ _ _ _ _ _ _ call_list_of rfl m.list b_list (Zg (@pe_slice _ _ _ _ _ _ _ _ _ _ sl_list (pv 0) (@po_none _) (@po_some _ _ _ Zq)) Zx rfl) (by trivial) (by trivial) (by trivial) (by trivial)) (@Yx _ _ _ _ _ _ _ _ op_repL (@Z7 _ _ _ _ (Zg Zq Zx rfl)) (@Ze _ _ _ _ _ _ _ _ _ call_int1 rfl m.int b_int (Zg (@pe_cmpR _ _ _ _ _ _ _ _ op_eqNil (pv 0) (@Z7 _ _ _ _ Zx) (Zh _)) Zx rfl) (by trivial) (by trivial) (by trivial) (by trivial)))) (Zg Zq (Zg Zq (Zg Zq Zx rfl) rfl) rfl) rfl)))), ?_⟩
 refine ⟨_,rfl,_,rfl,a,_,rfl,hS,fun p1 h1=>?_⟩
 have e63:cutV (ns.map V.int) none (some 63)=ns.map V.int:=cut_all (k:=63) _ (by rw [List.length_map]; exact h63)
 rw [e63]
 have s1:=Zv.lay (o:=.lst (ns.map V.int)) h1
 refine ⟨p1,_,rfl,.inl (Z0.of Zz),fun p2 h2=>⟨(sz 1),fun p3 h3=>?_⟩⟩
 have s2:=Zv.lay (o:=.lst (ns.map V.int)) h2
 have s3:=Zv.lay (o:=.lst [.int 0]) h3
 refine ⟨_,rfl,(sz 0),fun p4 h4=>?_⟩
 have s4:=Zv.lay (o:=.lst []) h4
 have s14:=s1.trans (s2.trans (s3.trans s4))
 refine ⟨a,p4,_,rfl,rfl,s14.seq hS,Z0.of Zz,Nat.lt_of_le_of_lt (Nat.le_add_right _ 1) (hu_of hr),.inr ⟨_,rfl, ?_⟩⟩
 have m2:Z0 K _ p2 (ns.map V.int):=Z0.of ((s3.trans s4) _ _ Zz)
 refine ⟨p3,_,_,rfl,rfl,s4 _ _ Zz,(by split <;> simp),fun p5 h5=>?_⟩
 have s5:=Zv.lay (o:=.lst (List.replicate ((if (ns.map V.int).isEmpty=true then (1:Int) else 0)).toNat (V.int 0))) h5
 refine ⟨p2,p5,_,_,rfl,rfl,(s3.trans (s4.trans s5)) _ _ Zz,Zz, ?_,fun p6 h6=>⟨(sz 4),fun p7 h7=>?_⟩⟩
 ·rw [List.length_map,List.length_replicate]
  refine Nat.le_trans (show _<=64 from ?_) (by decide)
  split <;> simp <;> omega
 have s6:=Zv.lay (o:=.lst (ns.map V.int++List.replicate ((if (ns.map V.int).isEmpty=true then (1:Int) else 0)).toNat (V.int 0))) h6
 have s7:=Zv.lay (o:=.lst [.ref p6,.int 0,.int 0,.int 0]) h7
 have ss:=s14.trans (s5.trans (s6.trans s7))
 have hl7:H p7=none:=(s14.trans (s5.trans s6)).free h7
 refine q p7 _ ss hl7 ⟨p6,ns++List.replicate ((if (ns.map V.int).isEmpty=true then (1:Int) else 0)).toNat 0,0,0,0,Zz, ?_, ?_, ?_,by decide,by decide,by decide⟩
 ·rw [List.map_append,List.map_replicate]
  exact s7 _ _ Zz
 ·rw [List.length_append,List.length_replicate]
  cases ns <;> simp
 ·rw [List.length_append,List.length_replicate]
  cases ns with
  | nil=>simp
  | cons n ns=>simp at h63 ⊢; omega
theorem ok_draw (F:Fun K "_law_draw" "_law_draw" s_law_draw f fd) (m:Bn mg):Y4 P w K mg base CX0 1 f fd ["_law_feed_here","_law_many"] spDraw:=by
 refine F.ok Vs (fun vs H Q E h=>?_) (fun cdv A outer s H vs Q E hr h=>?_)
 ·obtain ⟨l,m,r,rfl,_⟩:=h
  rfl
 obtain ⟨l,mm,r,rfl,⟨a,ns,b,c,d,hH,hA,n1,n64,b0,d0,dr⟩,hm,hm2,q⟩:=h
 refine ⟨_,(@Zj _ _ _ _ _ (@ps_asg _ _ _ _ _ _ (@Yx _ _ _ _ _ _ _ _ op_add (@Zm _ _ _ _ _ _ _ Z1 (pv 0) Zq (fun _ _=>rfl)) Zq) (@pg_sub _ _ _ _ _ _ _ (pv 0) Zq set_list (by trivial)) (by trivial) (by trivial) (by trivial)) (@Zj _ _ _ _ _ (@Zo _ 2 _ _ _ _ _ Vs.nd rfl (by trivial) (@Zm _ _ _ _ _ _ _ Z1 (pv 0) Zq (fun _ _=>rfl)) rfl (by trivial)) (@Zj _ _ _ _ _ (@Yz _ _ _ _ _ _ _ _ (@Zl _ _ _ _ _ _ _ _ Yf (@Zm _ _ _ _ _ _ _ Z1 (pv 0) Zq (fun _ _=>rfl)) Zq (Zh _)) (@Zj _ _ _ _ _ (@Zo _ 3 _ _ _ _ _ Vs.nd rfl (by trivial) (@Zm _ _ _ _ _ _ _ Z1 (@Zm _ _ _ _ _ _ _ Z1 (pv 0) Zq (fun _ _=>rfl)) (@Yx _ _ _ _ _ _ _ _ op_mod (@Zm _ _ _ _ _ _ _ Z1 (pv 0) Zq (fun _ _=>rfl)) (@Yy _ _ _ _ _ _ _ _ _ Yl rfl m.len b_len (Zg (@Zm _ _ _ _ _ _ _ Z1 (pv 0) Zq (fun _ _=>rfl)) Zx rfl) (by decide) (by decide) rfl rfl)) (fun _ _=>rfl)) rfl (by trivial)) (@Zj _ _ _ _ _ (@ps_asg _ _ _ _ _ _ (@Yx _ _ _ _ _ _ _ _ op_add (@Zm _ _ _ _ _ _ _ Z1 (pv 0) Zq (fun _ _=>rfl)) Zq) (@pg_sub _ _ _ _ _ _ _ (pv 0) Zq set_list (by trivial)) (by trivial) (by trivial) (by trivial)) (@Zj _ _ _ _ _ (@Yz _ _ _ _ _ _ _ _ (@Zl _ _ _ _ _ _ _ _ op_lt (pv 3) (@Yx _ _ _ _ _ _ _ _ op_pow Zq Zq) (Zh _)) (@Zj _ _ _ _ _ (@Zo _ 4 _ _ _ _ _ Vs.nd rfl (by trivial) (@Yx _ _ _ _ _ _ _ _ op_add (@Yx _ _ _ _ _ _ _ _ op_add (@Yx _ _ _ _ _ _ _ _ op_add (@Yx _ _ _ _ _ _ _ _ op_mod (pv 3) Zq) (@Yx _ _ _ _ _ _ _ _ op_mul (@Yx _ _ _ _ _ _ _ _ op_mul Zq (pv 2)) (pv 2))) (@Yx _ _ _ _ _ _ _ _ op_mul Zq (pv 2))) Zq) rfl (by trivial)) (@Zj _ _ _ _ _ (@Zo _ 4 _ _ _ _ _ Vs.nd rfl (by trivial) (@Yx _ _ _ _ _ _ _ _ op_mul (@Yx _ _ _ _ _ _ _ _ op_fdiv (@Yx _ _ _ _ _ _ _ _ op_mod (@Yx _ _ _ _ _ _ _ _ op_mul (pv 4) Zq) Zq) Zq) Zq) rfl (by trivial)) (@Zb _ _ _ (@Zp _ _ _ _ (@Yx _ _ _ _ _ _ _ _ op_mod (@Yx _ _ _ _ _ _ _ _ op_fdiv (@Yx _ _ _ _ _ _ _ _ op_mod (pv 4) Zq) Zq) (pv 1)))))) Za) (@Zb _ _ _ (@ps_asg _ _ _ _ _ _ (pv 3) (@pg_sub _ _ _ _ _ _ _ (pv 0) Zq set_list (by trivial)) (by trivial) (by trivial) (by trivial)))))) Za) (@Zj _ _ _ _ _ (@Zo _ 5 _ _ _ _ _ Vs.nd rfl (by trivial) (@Yx _ _ _ _ _ _ _ _ op_mod (@Zm _ _ _ _ _ _ _ Z1 (pv 0) Zq (fun _ _=>rfl)) (pv 1)) rfl (by trivial)) (@Zj _ _ _ _ _ (@ps_asg _ _ _ _ _ _ (@Yx _ _ _ _ _ _ _ _ op_fdiv (@Zm _ _ _ _ _ _ _ Z1 (pv 0) Zq (fun _ _=>rfl)) (pv 1)) (@pg_sub _ _ _ _ _ _ _ (pv 0) Zq set_list (by trivial)) (by trivial) (by trivial) (by trivial)) (@Zb _ _ _ (@Zp _ _ _ _ (pv 5)))))))), ?_⟩
 have nal:=fd_ne hH hA
 refine ⟨_,rfl,l,_,_,_,rfl,rfl,Z0.of hH,rfl,_,_,rfl,rfl,_,rfl,l,_,_,_,rfl,rfl,hH,rfl, ?_⟩
 have h2:(Z3 H l (.lst [.ref a,.int b,.int c,.int (d+1)])) l=some (.lst [.ref a,.int b,.int c,.int (d+1)]):=Zz
 have hA2:(Z3 H l (.lst [.ref a,.int b,.int c,.int (d+1)])) a=some (.lst (ns.map V.int)):=by rw [Zk nal]; exact hA
 have ok:∀ b' c':Int,0<=b'->Y5 l r H (Z3 H l (.lst [.ref a,.int b',.int c',.int (d+1)])):=fun b' c' hb=>⟨fun x o n h=>by rw [Zk n]; exact h,⟨a,ns,b',c',d+1,Zz,by rw [Zk nal]; exact hA,n1,n64,hb,by omega,by omega⟩,by rw [cellOf_eq hH,cellOf_eq Zz]⟩
 refine ⟨_,rfl,l,_,_,_,rfl,rfl,Z0.of h2,rfl, ?_⟩
 refine ⟨_,rfl,l,_,_,_,rfl,rfl,Z0.of h2,rfl,rfl,_,rfl, ?_⟩
 have pw:CPow 10 18:=⟨by decide,by decide,by decide⟩
 have hpos:(0:Int)<(((ns.map V.int).length:Nat):Int):=by rw [List.length_map]; omega
 have hr0:=Int.emod_nonneg b (Int.ne_of_gt hpos)
 have hr1:=Int.emod_lt_of_pos b hpos
 obtain ⟨cell,_,hat⟩:=pickI ns (r:=b % (((ns.map V.int).length:Nat):Int)) hr0 (by rw [List.length_map] at hr1 ⊢; exact hr1)
 refine V1 (fun c1=>?_) (fun c1=>?_)
 ·refine ⟨_,rfl,l,_,_,_,rfl,rfl,Z0.of h2,rfl,_,rfl,l,_,_,_,rfl,rfl,Z0.of h2,rfl,_,rfl,l,_,_,_,rfl,rfl,Z0.of h2,rfl,a,_,rfl,.inl (Z0.of hA2),_,_,rfl,rfl,hpos,a,_,_,_,rfl,rfl,Z0.of hA2,hat, ?_⟩
  refine ⟨_,rfl,l,_,_,_,rfl,rfl,Z0.of h2,rfl,_,_,rfl,rfl,_,rfl,l,_,_,_,rfl,rfl,h2,rfl, ?_⟩
  rw [upd_upd]
  refine ⟨_,rfl,_,_,rfl,rfl,pw,_,_,rfl,rfl,_,rfl, ?_⟩
  have h3:(Z3 H l (.lst [.ref a,.int (b+1),.int c,.int (d+1)])) l=some (.lst [.ref a,.int (b+1),.int c,.int (d+1)]):=Zz
  refine V1 (fun c2=>?_) (fun c2=>?_)
  ·refine ⟨_,rfl,_,_,rfl,rfl,(show (0:Int)<2147483629 by decide),_,rfl,_,_,rfl,rfl,.inl ⟨by decide,by decide⟩,_,rfl,_,_,rfl,rfl,.inr ⟨by omega,by omega⟩,_,_,rfl,rfl,_,rfl,_,_,rfl,rfl,.inl ⟨by decide,by decide⟩,_,_,rfl,rfl,_,_,rfl,rfl, ?_⟩
   refine ⟨_,rfl,_,_,rfl,rfl,.inr ⟨by decide,by decide⟩,_,_,rfl,rfl,(show (0:Int)<2147483647 by decide),_,_,rfl,rfl,⟨by decide,by decide⟩,_,_,rfl,rfl,.inr ⟨by decide,by decide⟩, ?_⟩
   refine ⟨_,rfl,_,_,rfl,rfl,(show (0:Int)<2147483629 by decide),_,_,rfl,rfl,⟨by decide,by decide⟩,_,rfl,_,_,rfl,rfl,hm, ?_⟩
   exact q _ _ (Int.emod_nonneg _ (by omega)) (Int.emod_lt_of_pos _ hm) (ok _ _ (by omega))
  ·refine ⟨_,rfl,_,rfl,l,_,_,_,rfl,rfl,h3,rfl, ?_⟩
   rw [upd_upd]
   have h4:(Z3 H l (.lst [.ref a,.int (b+1),.int cell,.int (d+1)])) l=some (.lst [.ref a,.int (b+1),.int cell,.int (d+1)]):=Zz
   refine ⟨_,rfl,l,_,_,_,rfl,rfl,Z0.of h4,rfl,_,rfl,_,_,rfl,rfl,hm, ?_⟩
   refine ⟨_,rfl,l,_,_,_,rfl,rfl,Z0.of h4,rfl,_,rfl,_,_,rfl,rfl,⟨hm,hm2⟩,_,rfl,l,_,_,_,rfl,rfl,h4,rfl,_,rfl, ?_⟩
   rw [upd_upd]
   exact q _ _ (Int.emod_nonneg _ (by omega)) (Int.emod_lt_of_pos _ hm) (ok _ _ (by omega))
 ·refine ⟨_,rfl,l,_,_,_,rfl,rfl,Z0.of h2,rfl,_,rfl,_,_,rfl,rfl,hm, ?_⟩
  refine ⟨_,rfl,l,_,_,_,rfl,rfl,Z0.of h2,rfl,_,rfl,_,_,rfl,rfl,⟨hm,hm2⟩,_,rfl,l,_,_,_,rfl,rfl,h2,rfl,_,rfl, ?_⟩
  rw [upd_upd]
  exact q _ _ (Int.emod_nonneg _ (by omega)) (Int.emod_lt_of_pos _ hm) (ok _ _ b0)
end
abbrev s_law_names:Stmt:=top 10
abbrev N_law_names:List Str:=["_law_feed_here","_law_many","_law_some","_law_first","_law_step"]
theorem sc_law_names:Yk N_law_names ["_law_feed_here","_law_many"] (Zf s_law_names):=by trivial
def V3:List Str:=["a","ab","abc","make","form","row","text","must","none","b","mak","abcdefgh"]
def nmL (f s:Nat) (m:Nat):List Str:=(List.range m).map fun k=>V3.getD ((f+s * k) % 12) "a"
theorem nmL_succ (f s i:Nat):nmL f s (i+1)=nmL f s i++[V3.getD ((f+s * i) % 12) "a"]:=by
 unfold nmL
 rw [List.range_succ,List.map_append]; rfl
theorem nmL_len (f s m:Nat):(nmL f s m).length=m:=by unfold nmL; rw [List.length_map,List.length_range]
theorem nmL_mem {f s m:Nat} {x:Str} (h:x∈nmL f s m):x∈V3:=by
 unfold nmL at h
 obtain ⟨k,_,rfl⟩:=List.mem_map.mp h
 have hk:(f+s * k) % 12<V3.length:=Nat.mod_lt _ (by decide)
 rw [List.getD_eq_getElem?_getD,List.getElem?_eq_getElem hk]
 exact List.getElem_mem hk
theorem nmL_pre (f s:Nat):∀ {m:Nat},m<=8->nmL f s m=(nmL f s 8).take m:=fun {m} h=>by
 unfold nmL
 rw [<-List.map_take,List.take_range,Nat.min_eq_left h]
theorem nmL_eight:∀ f<12,∀ s∈[1,5,7,11],(nmL f s 8).Nodup:=by decide +kernel
theorem nmL_nodup {f s m:Nat} (hf:f<12) (hs:s∈[1,5,7,11]) (hm:m<=8):(nmL f s m).Nodup:=by
 rw [nmL_pre f s hm]
 exact List.Sublist.nodup (List.take_sublist _ _) (nmL_eight f hf s hs)
structure Names (ss:List Str) (m:Nat):Prop where
 len:ss.length=m
 mem:∀ x∈ss,x∈V3
 nd:ss.Nodup
def spNames:Sp:=fun vs H Q _=>∃ (l:Addr) (m r:Nat),vs=[.ref l,.int m]/\Fd (r+2) H l/\m<=8/\∀ (p:Addr) (ss:List Str) (H':Hp),H' p=some (.lst (ss.map V.str))->H p=none->Names ss m->Y5 l r H H'->Q (.ref p) H'
section
variable {P:Program} {w:World} {K:W.Frag} {mg:Str->Option Value} {base:Heap} {f:Addr} {fd:FuncData}
set_option maxHeartbeats 0 in
theorem ok_names (F:Fun K "_law_names" "_law_names" s_law_names f fd) (m:Bn mg) (g_law_draw:Fn P w K mg base 1 "_law_draw" ["_law_feed_here","_law_many"] spDraw):Y4 P w K mg base CX0 2 f fd ["_law_feed_here","_law_many"] spNames:=by
 refine F.ok sc_law_names (fun vs H Q E h=>?_) (fun cdv A outer s H vs Q E hr h=>?_)
 ·obtain ⟨l,m,r,rfl,_⟩:=h
  rfl
 obtain ⟨l,mm,r,rfl,fe,h8,q⟩:=h
 refine ⟨_,(@Zj _ _ _ _ _ (@Zo _ 2 _ _ _ _ _ sc_law_names.nd rfl (by trivial) (@Z7 _ _ _ _ (Zg Zc (Zg Zc (Zg Zc (Zg Zc (Zg Zc (Zg Zc (Zg Zc (Zg Zc (Zg Zc (Zg Zc (Zg Zc (Zg Zc Zx rfl) rfl) rfl) rfl) rfl) rfl) rfl) rfl) rfl) rfl) rfl) rfl)) rfl (by trivial)) (@Zj _ _ _ _ _ (@Zo _ 3 _ _ _ _ _ sc_law_names.nd rfl (by trivial) (@Zy _ _ _ _ _ _ _ _ _ _ g_law_draw hr.m rfl (Zg (pv 0) (Zg Zq Zx rfl) rfl) (by decide) rfl rfl) rfl (by trivial)) (@Zj _ _ _ _ _ (@Zo _ 4 _ _ _ _ _ sc_law_names.nd rfl (by trivial) (@Zm _ _ _ _ _ _ _ Z1 (@Z7 _ _ _ _ (@pa_ints _ _ [1,5,7,11] rfl)) (@Zy _ _ _ _ _ _ _ _ _ _ g_law_draw hr.m rfl (Zg (pv 0) (Zg Zq Zx rfl) rfl) (by decide) rfl rfl) (fun _ _=>rfl)) rfl (by trivial)) (@Zb _ _ _ (@Zp _ _ _ _ (@Yw _ N_law_names (Zf s_law_names) ["_law_k","_law_some","_law_first","_law_step"] [none,some 2,some 3,some 4] _ _ _ _ _ _ _ _ _ _ rfl (@pi_range1 _ _ _ _ _ _ rfl m.range (Zg (pv 1) Zx rfl) (by trivial)) ⟨rfl,rfl,by decide +kernel,by decide +kernel⟩ (fun _ _ _=>(@Zn _ 0 _ _ (show List.Nodup (["_law_k","_law_some","_law_first","_law_step"]:List Str) from by decide +kernel) rfl (Or.inl rfl) (by trivial))) (fun _ _ _=>Yn) (fun _ _ _=>(@Zm _ _ _ _ _ _ _ Z1 (pv 1) (@Yx _ _ _ _ _ _ _ _ op_mod (@Yx _ _ _ _ _ _ _ _ op_add (pv 2) (@Yx _ _ _ _ _ _ _ _ op_mul (pv 3) (pv 0))) Zq) (fun _ _=>rfl))) (by trivial))))))), ?_⟩
 refine ⟨(sz 12),fun L hL=>?_⟩
 have s1:=Zv.lay (o:=.lst (V3.map V.str)) hL
 have t1:Y5 l (r+2) H _:=(Y5.refl fe).same s1
 refine ⟨_,rfl,l,12,r+1,rfl,t1.feed,by decide,by decide,fun x H2 x0 x1 t2=>?_⟩
 have t02:=t1.trans t2
 have nL:L≠l:=fe.ne hL
 have hL2:H2 L=some (.lst (V3.map V.str)):=t2.keep _ _ nL Zz
 refine ⟨(sz 4),fun L3 h3=>?_⟩
 have s3:=Zv.lay (o:=.lst ([1,5,7,11].map V.int)) h3
 have t03:=t02.same s3
 refine ⟨_,rfl,l,4,r,rfl,t03.feed,by decide,by decide,fun y H4 y0 y1 t4=>?_⟩
 have t04:=t03.trans t4
 have n3:L3≠l:=t02.feed.ne h3
 obtain ⟨st,mst,est⟩:=pickI [1,5,7,11] y0 y1
 refine ⟨L3,_,_,_,rfl,rfl,Z0.of (t4.keep _ _ n3 Zz),est, ?_⟩
 have hL4:H4 L=some (.lst (V3.map V.str)):=t4.keep _ _ nL (s3 _ _ hL2)
 obtain ⟨fn,rfl⟩:∃ n:Nat,x=n:=⟨x.toNat,by omega⟩
 obtain ⟨sn,rfl,msn⟩:∃ n:Nat,st=n/\n∈[1,5,7,11]:=by
  simp only [List.mem_cons,List.not_mem_nil,or_false] at mst
  rcases mst with rfl | rfl | rfl | rfl
  ·exact ⟨1,rfl,by decide⟩
  ·exact ⟨5,rfl,by decide⟩
  ·exact ⟨7,rfl,by decide⟩
  ·exact ⟨11,rfl,by decide⟩
 refine ⟨_,rfl,_,rfl,by omega,by omega,fun D fp sx hD=>?_⟩
 refine comp_range (fun i zs σ H5=>(∃ o,σ=[o,some (.ref L),some (.int fn),some (.int sn)])/\zs=(nmL fn sn i).map V.str/\Zv H4 H5/\H5 D=some (.lst zs)) ⟨⟨_,rfl⟩,rfl,(Zv.refl H4).put hD,Zz⟩ ?_ ?_ ?_
 ·rintro i zs σ H5 hi ⟨_,_,s5,h5⟩
  exact h5
 ·rintro i zs σ H5 hi ⟨⟨o,rfl⟩,rfl,s5,h5⟩
  refine Vk ?_
  have hk:(fn+sn * i) % 12<V3.length:=Nat.mod_lt _ (by decide)
  have ev:atI (V3.map V.str) (((fn:Int)+(sn:Int) * (0+(i:Int))) % 12)=some (.str (V3.getD ((fn+sn * i) % 12) "a")):=by
   rw [show ((fn:Int)+(sn:Int) * (0+(i:Int))) % 12=(((fn+sn * i) % 12:Nat):Int) by rw [Int.zero_add]; omega]
   refine Y8 ?_
   rw [List.getElem?_map,List.getElem?_eq_getElem hk,List.getD_eq_getElem?_getD,List.getElem?_eq_getElem hk]; rfl
  have sb:sn<=11:=by
   simp only [List.mem_cons,List.not_mem_nil,or_false] at msn
   omega
  refine ⟨_,rfl,_,rfl,_,rfl,_,rfl,_,_,rfl,rfl,.inl ⟨by omega,by omega⟩,_,_,rfl,rfl,_,_,rfl,rfl,(show (0:Int)<12 by decide),L,_,_,_,rfl,rfl,Z0.of (s5 _ _ hL4),ev,h5, ?_,⟨_,rfl⟩, ?_,s5.put hD,Zz⟩
  ·rw [List.length_map,nmL_len]; exact Nat.lt_of_lt_of_le (show i<8 by have:i<((mm:Nat):Int).toNat:=hi; omega) (by decide)
  ·rw [nmL_succ,List.map_append]; rfl
 ·rintro zs σ H5 ⟨_,rfl,s5,h5⟩
  have e:((mm:Nat):Int).toNat=mm:=by omega
  have h5:H5 D=some (.lst ((nmL fn sn ((mm:Nat):Int).toNat).map V.str)):=h5
  rw [e] at h5
  exact q D _ H5 h5 (t04.free hD) ⟨nmL_len _ _ _,fun x h=>nmL_mem h,nmL_nodup (by omega) msn h8⟩ (t04.same s5)
end
abbrev s_law_numbers:Stmt:=top 11
abbrev N_law_numbers:List Str:=["_law_feed_here","_law_most","_law_some"]
theorem sc_law_numbers:Yk N_law_numbers ["_law_feed_here","_law_most"] (Zf s_law_numbers):=by trivial
abbrev s_law_struck:Stmt:=top 14
abbrev N_law_struck:List Str:=["_law_feed_here","_law_numbers_here"]
theorem sc_law_struck:Yk N_law_struck ["_law_feed_here","_law_numbers_here"] (Zf s_law_struck):=by trivial
def NUMS:List Int:=[1,2,3,9,10,99,100,999]
def STRK:List Int:=[4,11,99,998]
def spNumbers:Sp:=fun vs H Q _=>∃ (l:Addr) (m r:Nat),vs=[.ref l,.int m]/\Fd (r+8) H l/\∀ (p:Addr) (ns:List Int) (H':Hp),H' p=some (.lst (ns.map V.int))->H p=none->ns.Sublist NUMS->ns.length<=m->Y5 l r H H'->Q (.ref p) H'
def spStruckD (K:W.Frag):Sp:=fun vs H Q _=>∃ (l p:Addr) (ns:List Int) (r:Nat),vs=[.ref l,.ref p]/\H p=some (.lst (ns.map V.int))/\Fd (r+4) H l/\∀ (q:Addr) (us:List Int) (H':Hp),Z6 K H' q (us.map V.int)->us.Sublist STRK->(∀ u∈us,u ∉ ns)->Y5 l r H H'->Q (.ref q) H'
theorem flat_ints (ns:List Int):(ns.map V.int).all flatV=true:=by
 rw [List.all_eq_true]
 intro x m
 obtain ⟨n,_,rfl⟩:=List.mem_map.mp m
 rfl
theorem inV_int (n:Int):∀ ns:List Int,inV (.int n) (ns.map V.int)=decide (n∈ns)
 | []=>by simp [inV]
 | k::ns=>by
  have ih:=inV_int n ns
  unfold inV at ih ⊢
  rw [List.map_cons,List.any_cons,ih]
  show (decide (k=n) || decide (n∈ns))=_
  by_cases h:k=n
  ·subst h; simp
  ·have:¬ n=k:=fun z=>h z.symm
   simp [h,this]
section
variable {P:Program} {w:World} {K:W.Frag} {mg:Str->Option Value} {base:Heap} {f:Addr} {fd:FuncData}
theorem ok_numbers (F:Fun K "_law_numbers" "_law_numbers" s_law_numbers f fd) (m:Bn mg) (g_law_draw:Fn P w K mg base 1 "_law_draw" ["_law_feed_here","_law_many"] spDraw):Y4 P w K mg base CX0 2 f fd ["_law_feed_here","_law_most"] spNumbers:=by
 refine F.ok sc_law_numbers (fun vs H Q E h=>?_) (fun cdv A outer s H vs Q E hr h=>?_)
 ·obtain ⟨l,m,r,rfl,_⟩:=h
  rfl
 obtain ⟨l,mm,r,rfl,fe,q⟩:=h
 refine ⟨_,(@Zj _ _ _ _ _ (@Vy _ 2 N_law_numbers (Zf s_law_numbers) ["_law_number","_law_feed_here"] [none,some 0] _ _ _ _ _ _ _ _ _ _ _ _ _ sc_law_numbers.nd rfl (by trivial) rfl (@Vj _ _ _ _ (@Z7 _ _ _ _ (@pa_ints _ _ [1,2,3,9,10,99,100,999] rfl))) ⟨rfl,rfl,by decide +kernel,by decide +kernel⟩ (fun _ _ _=>(@Zn _ 0 _ _ (show List.Nodup (["_law_number","_law_feed_here"]:List Str) from by decide +kernel) rfl (Or.inl rfl) (by trivial))) (fun _ _ _=>(@pts_one _ _ _ (@Zl _ _ _ _ _ _ _ _ Yf (@Zy _ _ _ _ _ _ _ _ _ _ g_law_draw hr.m rfl (Zg (pv 1) (Zg Zq Zx rfl) rfl) (by decide) rfl rfl) Zq (Zh _)))) (fun _ _ _=>(pv 0)) (by trivial) (by trivial) (by trivial)) (@Zb _ _ _ (@Zp _ _ _ _ (@pe_slice _ _ _ _ _ _ _ _ _ _ sl_list (pv 2) (@po_none _) (@po_some _ _ _ (pv 1)))))), ?_⟩
 refine ⟨(sz 8),fun L hL=>⟨L,rfl,⟨_,Z0.of Zz⟩,fun D fp sx hD=>?_⟩⟩
 have s1:=Zv.lay (o:=.lst (NUMS.map V.int)) hL
 have f1:Fd (r+8) (Z3 H L (.lst (NUMS.map V.int))) l:=fe.same s1
 have nD:D≠l:=f1.ne hD
 have nL:L≠l:=fe.ne hL
 have nLD:L≠D:=fun e=>by rw [<-e,Zz] at hD; cases hD
 refine Vz (K:=K) (xs:=NUMS.map V.int) (fun i ys σ H5=>(∃ o,σ=[o,some (.ref l)])/\(∃ ns:List Int,ys=ns.map V.int/\ns.Sublist (NUMS.take i))/\Y5 l (r+(8 - i)) (Z3 H L (.lst (NUMS.map V.int))) H5/\H5 L=some (.lst (NUMS.map V.int))/\H5 D=some (.lst ys))
  ⟨⟨_,rfl⟩,⟨[],rfl,.slnil⟩,(Y5.refl f1).put hD (f1.far hD),by rw [Zk nLD]; exact Zz,Zz⟩ ?_ ?_ ?_
 ·rintro i ys σ H5 hi ⟨_,_,t5,h5,h6⟩
  exact ⟨Z0.of h5,h6⟩
 ·rintro i x ys σ H5 hx ⟨⟨o,rfl⟩,⟨ns,rfl,sb⟩,t5,h5,h6⟩
  rw [List.getElem?_map] at hx
  obtain ⟨n,en,rfl⟩:=Option.map_eq_some_iff.mp hx
  have hi:i<8:=(List.getElem?_eq_some_iff.mp en).1
  have tk:=Zr en
  refine goOn ?_
  refine ⟨_,rfl,l,3,r+(8 - (i+1)),rfl,t5.feed.mono (by omega),by decide,by decide,fun z H6 z0 z1 t6=>?_⟩
  have t56:=t5.trans t6
  have h6D:=t6.keep _ _ nD h6
  have h6L:=t6.keep _ _ nL h5
  refine ⟨rfl,_,rfl, ?_⟩
  refine V1 (fun c=>?_) (fun c=>?_)
  ·refine ⟨_,rfl,h6D, ?_,⟨_,rfl⟩,⟨ns++[n],by rw [List.map_append]; rfl, ?_⟩,t56.put hD (f1.far hD),by rw [Zk nLD]; exact h6L,Zz⟩
   ·have:=sb.length_le
    rw [List.length_take] at this
    rw [List.length_map]; exact Nat.lt_of_le_of_lt (show ns.length<=8 by omega) (by decide)
   ·rw [tk]; exact sb.append (List.Sublist.refl _)
  ·exact ⟨⟨_,rfl⟩,⟨ns,rfl,by rw [tk]; exact sb.trans (List.sublist_append_left _ _)⟩,t56,h6L,h6D⟩
 ·rintro ys σ H5 ⟨_,⟨ns,rfl,sb⟩,t5,h5,h6⟩
  refine ⟨_,rfl,_,rfl,_,rfl,D,_,rfl,Z0.of h6,fun p hp=>?_⟩
  have e:cutV (ns.map V.int) none (some ((mm:Nat):Int))=(ns.take mm).map V.int:=by
   unfold cutV
   rw [HT.sIx_nat,HT.sIx_none,List.drop_zero,Nat.sub_zero,List.map_take]
   by_cases h:mm<=(ns.map V.int).length
   ·rw [Nat.min_eq_left h]
   ·rw [Nat.min_eq_right (by omega),List.take_of_length_le (Nat.le_refl _),List.take_of_length_le (by omega)]
  rw [e]
  have t7:=t5.lay (o:=.lst ((ns.take mm).map V.int)) hp
  refine q p (ns.take mm) _ Zz (s1.free (t5.free hp)) ((List.take_sublist _ _).trans sb) (by rw [List.length_take]; omega) ?_
  exact ((Y5.refl fe).same s1).trans (t7.mono (by omega))
theorem ok_struckD (F:Fun K "_law_struck" "_law_struck" s_law_struck f fd) (m:Bn mg) (g_law_draw:Fn P w K mg base 1 "_law_draw" ["_law_feed_here","_law_many"] spDraw):Y4 P w K mg base CX0 2 f fd ["_law_feed_here","_law_numbers_here"] (spStruckD K):=by
 refine F.ok sc_law_struck (fun vs H Q E h=>?_) (fun cdv A outer s H vs Q E hr h=>?_)
 ·obtain ⟨l,p,ns,r,rfl,_⟩:=h
  rfl
 obtain ⟨l,p,tk,r,rfl,hp,fe,q⟩:=h
 refine ⟨_,(@Zb _ _ _ (@Zp _ _ _ _ (@Ze _ _ _ _ _ _ _ _ _ Zi rfl m.tuple Ya (Zg (@Yw _ N_law_struck (Zf s_law_struck) ["_law_number","_law_numbers_here","_law_feed_here"] [none,some 1,some 0] _ _ _ _ _ _ _ _ _ _ rfl (@Vj _ _ _ _ (@Z7 _ _ _ _ (@pa_ints _ _ [4,11,99,998] rfl))) ⟨rfl,rfl,by decide +kernel,by decide +kernel⟩ (fun _ _ _=>(@Zn _ 0 _ _ (show List.Nodup (["_law_number","_law_numbers_here","_law_feed_here"]:List Str) from by decide +kernel) rfl (Or.inl rfl) (by trivial))) (fun _ _ _=>(@pts_one _ _ _ (@PW.pt _ _ _ (@pw_and _ _ _ _ _ _ _ (@Zl _ _ _ _ _ _ _ _ op_notIn_seq (pv 0) (pv 1) rfl) (@pw_and1 _ _ _ _ (@Zl _ _ _ _ _ _ _ _ Yf (@Zy _ _ _ _ _ _ _ _ _ _ g_law_draw hr.m rfl (Zg (pv 2) (Zg Zq Zx rfl) rfl) (by decide) rfl rfl) Zq (Zh _))))))) (fun _ _ _=>(pv 0)) (by trivial)) Zx rfl) (by trivial) (by trivial) (by trivial) (by trivial)))), ?_⟩
 refine ⟨(sz 4),fun L hL=>⟨L,rfl,⟨_,Z0.of Zz⟩,fun D fp sx hD=>?_⟩⟩
 have s1:=Zv.lay (o:=.lst (STRK.map V.int)) hL
 have f1:Fd (r+4) (Z3 H L (.lst (STRK.map V.int))) l:=fe.same s1
 have nD:D≠l:=f1.ne hD
 have nL:L≠l:=fe.ne hL
 have nLD:L≠D:=fun e=>by rw [<-e,Zz] at hD; cases hD
 have np:p≠l:=fun e=>by
  obtain ⟨a,ks,b,c,d,e1,_⟩:=fe
  rw [e,e1] at hp
  injection hp with hp
  injection hp with hp
  cases tk with
  | nil=>cases hp
  | cons n ns=>injection hp with h3 _; cases h3
 have hp1:=s1 _ _ hp
 have npD:p≠D:=Z4 hp1 hD
 refine Vz (K:=K) (xs:=STRK.map V.int) (fun i ys σ H5=>(∃ o,σ=[o,some (.ref p),some (.ref l)])/\(∃ ns:List Int,ys=ns.map V.int/\ns.Sublist (STRK.take i)/\∀ u∈ns,u ∉ tk)/\Y5 l (r+(4 - i)) (Z3 H L (.lst (STRK.map V.int))) H5/\H5 L=some (.lst (STRK.map V.int))/\H5 D=some (.lst ys)/\H5 p=some (.lst (tk.map V.int)))
  ⟨⟨_,rfl⟩,⟨[],rfl,.slnil,fun u mu=>absurd mu List.not_mem_nil⟩,(Y5.refl f1).put hD (f1.far hD),by rw [Zk nLD]; exact Zz,Zz,by rw [Zk npD]; exact hp1⟩ ?_ ?_ ?_
 ·rintro i ys σ H5 hi ⟨_,_,t5,h5,h6,_⟩
  exact ⟨Z0.of h5,h6⟩
 ·rintro i x ys σ H5 hx ⟨⟨o,rfl⟩,⟨ns,rfl,sb,no⟩,t5,h5,h6,h7⟩
  rw [List.getElem?_map] at hx
  obtain ⟨n,en,rfl⟩:=Option.map_eq_some_iff.mp hx
  have hi:i<4:=(List.getElem?_eq_some_iff.mp en).1
  have tm:=Zr en
  have skip:∀ {H6:Hp} {o':Option V},Y5 l (r+(4 - (i+1))) (Z3 H L (.lst (STRK.map V.int))) H6->H6 L=some (.lst (STRK.map V.int))->H6 D=some (.lst (ns.map V.int))->H6 p=some (.lst (tk.map V.int)) ->
    (∃ o,([o',some (.ref p),some (.ref l)]:L2.St)=[o,some (.ref p),some (.ref l)])/\(∃ ms:List Int,ns.map V.int=ms.map V.int/\ms.Sublist (STRK.take (i+1))/\∀ u∈ms,u ∉ tk)/\Y5 l (r+(4 - (i+1))) (Z3 H L (.lst (STRK.map V.int))) H6/\H6 L=some (.lst (STRK.map V.int))/\H6 D=some (.lst (ns.map V.int))/\H6 p=some (.lst (tk.map V.int)) :=
   fun a b c d=>⟨⟨_,rfl⟩,⟨ns,rfl,by rw [tm]; exact sb.trans (List.sublist_append_left _ _),no⟩,a,b,c,d⟩
  refine goOn ?_
  refine ⟨_,rfl,_,rfl,p,_,rfl,.inl (Z0.of h7),rfl,flat_ints tk,_,rfl, ?_⟩
  show if (!inV (.int n) (tk.map V.int))=true then _ else _
  rw [inV_int]
  refine V1 (fun cm=>?_) (fun cm=>?_)
  ·have cm':n ∉ tk:=by simpa using cm
   refine ⟨_,rfl,l,4,r+(4 - (i+1)),rfl,t5.feed.mono (by omega),by decide,by decide,fun z H6 z0 z1 t6=>?_⟩
   have t56:=t5.trans t6
   have h6D:=t6.keep _ _ nD h6
   have h6L:=t6.keep _ _ nL h5
   have h6p:=t6.keep _ _ np h7
   refine ⟨rfl,_,rfl, ?_⟩
   refine V1 (fun c=>?_) (fun c=>?_)
   ·refine ⟨_,rfl,h6D, ?_,⟨_,rfl⟩,⟨ns++[n],by rw [List.map_append]; rfl, ?_, ?_⟩,t56.put hD (f1.far hD),by rw [Zk nLD]; exact h6L,Zz,by rw [Zk npD]; exact h6p⟩
    ·have:=sb.length_le
     rw [List.length_take] at this
     rw [List.length_map]; exact Nat.lt_of_le_of_lt (show ns.length<=8 by omega) (by decide)
    ·rw [tm]; exact sb.append (List.Sublist.refl _)
    ·intro u mu
     rcases List.mem_append.mp mu with mu | mu
     ·exact no u mu
     ·rw [List.mem_singleton.mp mu]; exact cm'
   ·exact skip t56 h6L h6D h6p
  ·exact skip (t5.mono (by omega)) h5 h6 h7
 ·rintro ys σ H5 ⟨_,⟨ns,rfl,sb,no⟩,t5,h5,h6,h7⟩
  refine ⟨D,_,rfl,.inl ⟨Z0.of h6,fun e he=>?_⟩⟩
  exact q e ns _ (Z6.of Zz) sb no (((Y5.refl fe).same s1).trans ((t5.lay he).mono (by omega)))
end
abbrev Ve:Stmt:=top 12
abbrev N_law_plain_shape:List Str:=["_law_feed_here","_law_names_here","_law_way","_law_low","_law_word"]
theorem Y6:Yk N_law_plain_shape ["_law_feed_here","_law_names_here"] (Zf Ve):=by trivial
structure Vm where
 n:Int
 x:Str
 y:Str
 d:Option Th
def Vm.t (f:Vm):Th:=.tup [.int f.n,.str f.x,.str f.y,.tup f.d.toList]
def Vm.a (f:Vm):Th:=.tup [.int f.n,.str f.x,.str f.y]
inductive Yr where
 | whole (lo hi:Int) | truth | text (n:Int) | row (b:Bool) (y:Str) (n:Int) | rcd (fs:List Vm) (us:List Int) | cho (fs:List Vm) (us:List Int) (o:Bool)
def Yr.t:Yr->Th
 | .whole lo hi=>.tup [.str "whole",.int lo,.int hi]
 | .truth=>.tup [.str "truth"]
 | .text n=>.tup [.str "text",.int n]
 | .row b y n=>.tup [.str (if b=true then "row" else "map"),.str y,.int n]
 | .rcd fs us=>.tup [.str "record",.tup (fs.map Vm.t),.tup (us.map Th.int)]
 | .cho fs us o=>.tup [.str "choice",.tup (fs.map Vm.a),.tup (us.map Th.int),.bl o]
def ALL:Int:=1000000000000000000
def Pln (ss:List Str):Yr->Prop
 | .whole lo hi=>-ALL<=lo/\lo<=hi/\hi<=ALL
 | .truth=>True
 | .text n=>0<=n/\n<=200
 | .row _ y n=>y∈ss/\0<=n/\n<=20
 | _=>False
def LOWS:List Int:=[0, -3,1,5, -((10:Int) ^ (18:Int).toNat),0]
def ADDS:List Int:=[1,0,7,300,(10:Int) ^ (18:Int).toNat]
theorem lows_ok:∀ x∈LOWS, -ALL<=x/\x<=5:=by decide
theorem adds_ok:∀ x∈ADDS,0<=x/\x<=ALL:=by decide
theorem e18:(10:Int) ^ (18:Int).toNat=ALL:=by decide
def spPlainS (K:W.Frag):Sp:=fun vs H Q _=>∃ (l p:Addr) (ss:List Str) (r:Nat),vs=[.ref l,.ref p]/\H p=some (.lst (ss.map V.str))/\1<=ss.length/\ss.length<=12/\Fd (r+3) H l/\∀ v s H',Zd K H' (Yr.t s) v->Pln ss s->Y5 l r H H'->Q v H'
theorem strs_ne {H:Hp} {l p:Addr} {r:Nat} {ss:List Str} (fe:Fd r H l) (hp:H p=some (.lst (ss.map V.str))):p≠l:=fun e=>by
 obtain ⟨a,ks,b,c,d,e1,_⟩:=fe
 rw [e,e1] at hp
 injection hp with hp
 injection hp with hp
 cases ss with
 | nil=>cases hp
 | cons n ns=>injection hp with h3 _; cases h3
section
variable {P:Program} {w:World} {K:W.Frag} {mg:Str->Option Value} {base:Heap} {f:Addr} {fd:FuncData}
theorem ok_plain_shape (F:Fun K "_law_plain_shape" "_law_plain_shape" Ve f fd) (m:Bn mg) (g_law_draw:Fn P w K mg base 1 "_law_draw" ["_law_feed_here","_law_many"] spDraw):Y4 P w K mg base CX0 2 f fd ["_law_feed_here","_law_names_here"] (spPlainS K):=by
 refine F.ok Y6 (fun vs H Q E h=>?_) (fun cdv A outer s H vs Q E hr h=>?_)
 ·obtain ⟨l,p,ss,r,rfl,_⟩:=h
  rfl
 obtain ⟨l,p,ss,r,rfl,hp,l1,l2,fe,q⟩:=h
 have mmin:=m.min
 refine ⟨_,(@Zj _ _ _ _ _ (@Zo _ 2 _ _ _ _ _ Y6.nd rfl (by trivial) (@Zy _ _ _ _ _ _ _ _ _ _ g_law_draw hr.m rfl (Zg (pv 0) (Zg Zq Zx rfl) rfl) (by decide) rfl rfl) rfl (by trivial)) (@Zj _ _ _ _ _ (@Yz _ _ _ _ _ _ _ _ (@Zl _ _ _ _ _ _ _ _ op_lt (pv 2) Zq (Zh _)) (@Zj _ _ _ _ _ (@Zo _ 3 _ _ _ _ _ Y6.nd rfl (by trivial) (@Zm _ _ _ _ _ _ _ Z1 (@Z7 _ _ _ _ (Zg Zq (Zg (@pe_un _ _ _ _ _ _ un_neg Zq) (Zg Zq (Zg Zq (Zg (@pe_un _ _ _ _ _ _ un_neg (@Yx _ _ _ _ _ _ _ _ op_pow Zq Zq)) (Zg Zq Zx rfl) rfl) rfl) rfl) rfl) rfl)) (@Zy _ _ _ _ _ _ _ _ _ _ g_law_draw hr.m rfl (Zg (pv 0) (Zg Zq Zx rfl) rfl) (by decide) rfl rfl) (fun _ _=>rfl)) rfl (by trivial)) (@Zb _ _ _ (@Zp _ _ _ _ (@Zu _ _ _ _ _ (Zg Zc (Zg (pv 3) (Zg (@Yy _ _ _ _ _ _ _ _ _ (call_min2 rfl) rfl mmin b_min (Zg (@Yx _ _ _ _ _ _ _ _ op_pow Zq Zq) (Zg (@Yx _ _ _ _ _ _ _ _ op_add (pv 3) (@Zm _ _ _ _ _ _ _ Z1 (@Z7 _ _ _ _ (Zg Zq (Zg Zq (Zg Zq (Zg Zq (Zg (@Yx _ _ _ _ _ _ _ _ op_pow Zq Zq) Zx rfl) rfl) rfl) rfl) rfl)) (@Zy _ _ _ _ _ _ _ _ _ _ g_law_draw hr.m rfl (Zg (pv 0) (Zg Zq Zx rfl) rfl) (by decide) rfl rfl) (fun _ _=>rfl))) Zx rfl) rfl) (by decide) (by decide) rfl rfl) Zx rfl) rfl) rfl))))) Za) (@Zj _ _ _ _ _ (@Yz _ _ _ _ _ _ _ _ (@Zl _ _ _ _ _ _ _ _ Yf (pv 2) Zq (Zh _)) (@Zb _ _ _ (@Zp _ _ _ _ (@Zu _ _ _ _ _ (Zg Zc Zx rfl)))) Za) (@Zj _ _ _ _ _ (@Yz _ _ _ _ _ _ _ _ (@Zl _ _ _ _ _ _ _ _ op_lt (pv 2) Zq (Zh _)) (@Zb _ _ _ (@Zp _ _ _ _ (@Zu _ _ _ _ _ (Zg Zc (Zg (@Zm _ _ _ _ _ _ _ Z1 (@Z7 _ _ _ _ (@pa_ints _ _ [0,1,3,5,200] rfl)) (@Zy _ _ _ _ _ _ _ _ _ _ g_law_draw hr.m rfl (Zg (pv 0) (Zg Zq Zx rfl) rfl) (by decide) rfl rfl) (fun _ _=>rfl)) Zx rfl) rfl)))) Za) (@Zj _ _ _ _ _ (@Zo _ 4 _ _ _ _ _ Y6.nd rfl (by trivial) (@Zm _ _ _ _ _ _ _ Z1 (@Z7 _ _ _ _ (Zg Zc (Zg Zc (Zg Zc Zx rfl) rfl) rfl)) (@Yx _ _ _ _ _ _ _ _ op_sub (pv 2) Zq) (fun _ _=>rfl)) rfl (by trivial)) (@Zb _ _ _ (@Zp _ _ _ _ (@Zu _ _ _ _ _ (Zg (pv 4) (Zg (@Zm _ _ _ _ _ _ _ Z1 (pv 1) (@Zy _ _ _ _ _ _ _ _ _ _ g_law_draw hr.m rfl (Zg (pv 0) (Zg (@Yy _ _ _ _ _ _ _ _ _ Yl rfl m.len b_len (Zg (pv 1) Zx rfl) (by decide) (by decide) rfl rfl) Zx rfl) rfl) (by decide) rfl rfl) (fun _ _=>rfl)) (Zg (@Zm _ _ _ _ _ _ _ Z1 (@Z7 _ _ _ _ (@pa_ints _ _ [0,1,2,3,20] rfl)) (@Zy _ _ _ _ _ _ _ _ _ _ g_law_draw hr.m rfl (Zg (pv 0) (Zg Zq Zx rfl) rfl) (by decide) rfl rfl) (fun _ _=>rfl)) Zx rfl) rfl) rfl))))))))), ?_⟩
 have pw:CPow 10 18:=⟨by decide,by decide,by decide⟩
 have np:=strs_ne fe hp
 refine ⟨_,rfl,l,8,r+2,rfl,fe,by decide,by decide,fun x H1 x0 x1 t1=>?_⟩
 refine ⟨_,rfl,_,_,rfl,rfl,_,rfl, ?_⟩
 refine V1 (fun c1=>?_) (fun c1=>?_)
 ·refine ⟨_,rfl,_,_,rfl,rfl,pw,_,rfl,(sz 6),fun L hL=>?_⟩
  have s2:=Zv.lay (o:=.lst (LOWS.map V.int)) hL
  have t2:=t1.same s2
  refine ⟨_,rfl,l,6,r+1,rfl,t2.feed,by decide,by decide,fun y H3 y0 y1 t3=>?_⟩
  obtain ⟨lo,mlo,elo⟩:=pickI LOWS y0 y1
  have t03:=t2.trans t3
  refine ⟨L,_,_,_,rfl,rfl,Z0.of (t3.keep _ _ (t1.feed.ne hL) Zz),elo, ?_⟩
  refine ⟨_,rfl,_,_,rfl,rfl,pw,_,rfl,_,_,rfl,rfl,pw,(sz 5),fun L4 h4=>?_⟩
  have s4:=Zv.lay (o:=.lst (ADDS.map V.int)) h4
  have t04:=t03.same s4
  refine ⟨_,rfl,l,5,r,rfl,t04.feed,by decide,by decide,fun z H5 z0 z1 t5=>?_⟩
  obtain ⟨ad,mad,ead⟩:=pickI ADDS z0 z1
  have t05:=t04.trans t5
  refine ⟨L4,_,_,_,rfl,rfl,Z0.of (t5.keep _ _ (t03.feed.ne h4) Zz),ead,_,_,rfl,rfl,_,_,rfl,(sz 3),fun e he=>?_⟩
  have b1:=lows_ok lo mlo
  have b2:=adds_ok ad mad
  refine q _ (.whole lo _) _ ⟨e,_,rfl,Z6.of Zz,_,_,rfl,rfl,_,_,rfl,rfl,_,_,rfl,rfl,rfl⟩ ⟨b1.1, ?_, ?_⟩ ((t05.lay he).mono (by omega))
  ·have a1:(1000000000000000000:Int)=ALL:=rfl
   rw [e18]; split <;> omega
  ·rw [e18]; split <;> omega
 ·refine ⟨_,rfl,rfl,_,rfl, ?_⟩
  refine V1 (fun c2=>?_) (fun c2=>?_)
  ·refine ⟨(sz 1),fun e he=>?_⟩
   exact q _ .truth _ ⟨e,_,rfl,Z6.of Zz,_,_,rfl,rfl,rfl⟩ trivial ((t1.lay he).mono (by omega))
  ·refine ⟨_,rfl,_,_,rfl,rfl,_,rfl, ?_⟩
   refine V1 (fun c3=>?_) (fun c3=>?_)
   ·refine ⟨(sz 5),fun L hL=>?_⟩
    have s2:=Zv.lay (o:=.lst ([0,1,3,5,200].map V.int)) hL
    have t2:=t1.same s2
    refine ⟨_,rfl,l,5,r+1,rfl,t2.feed,by decide,by decide,fun y H3 y0 y1 t3=>?_⟩
    obtain ⟨n,mn,en⟩:=pickI [0,1,3,5,200] y0 y1
    refine ⟨L,_,_,_,rfl,rfl,Z0.of (t3.keep _ _ (t1.feed.ne hL) Zz),en,(sz 2),fun e he=>?_⟩
    have bn:0<=n/\n<=200:=(by decide:∀ x∈([0,1,3,5,200]:List Int),0<=x/\x<=200) n mn
    exact q _ (.text n) _ ⟨e,_,rfl,Z6.of Zz,_,_,rfl,rfl,_,_,rfl,rfl,rfl⟩ bn (((t2.trans t3).lay he).mono (by omega))
   ·refine ⟨(sz 3),fun L hL=>?_⟩
    have s2:=Zv.lay (o:=.lst ((["row","map","row"]:List Str).map V.str)) hL
    have t2:=t1.same s2
    have c3':¬ x<5:=fun z=>c3 (decide_eq_true z)
    obtain ⟨wd,mw,ew⟩:=pickS ["row","map","row"] (r:=x - 5) (by omega) (by show x - 5<3; omega)
    obtain ⟨b,rfl⟩:∃ b:Bool,wd=(if b=true then ("row" : Str) else ("map" : Str)):=by
     simp only [List.mem_cons,List.not_mem_nil,or_false] at mw
     rcases mw with rfl | rfl | rfl
     ·exact ⟨true,rfl⟩
     ·exact ⟨false,rfl⟩
     ·exact ⟨true,rfl⟩
    refine ⟨_,rfl,_,_,rfl,rfl,L,_,_,_,rfl,rfl,Z0.of Zz,ew, ?_⟩
    have hp2:=s2 _ _ (t1.keep _ _ np hp)
    refine ⟨_,rfl,_,rfl,_,rfl,_,rfl,p,_,rfl,.inl (Z0.of hp2),l,_,r+1,rfl,t2.feed, ?_, ?_,fun y H3 y0 y1 t3=>?_⟩
    ·rw [List.length_map]; omega
    ·rw [List.length_map]; omega
    obtain ⟨nm,mn,en⟩:=pickS ss y0 (by rw [List.length_map] at y1; exact y1)
    have hp3:=t3.keep _ _ np hp2
    have t03:=t2.trans t3
    refine ⟨p,_,_,_,rfl,rfl,Z0.of hp3,en,(sz 5),fun L4 h4=>?_⟩
    have s4:=Zv.lay (o:=.lst ([0,1,2,3,20].map V.int)) h4
    have t04:=t03.same s4
    refine ⟨_,rfl,l,5,r,rfl,t04.feed,by decide,by decide,fun z H5 z0 z1 t5=>?_⟩
    obtain ⟨n,mn',en'⟩:=pickI [0,1,2,3,20] z0 z1
    refine ⟨L4,_,_,_,rfl,rfl,Z0.of (t5.keep _ _ (t03.feed.ne h4) Zz),en',(sz 3),fun e he=>?_⟩
    have bn:0<=n/\n<=20:=(by decide:∀ x∈([0,1,2,3,20]:List Int),0<=x/\x<=20) n mn'
    exact q _ (.row b nm n) _ ⟨e,_,rfl,Z6.of Zz,_,_,rfl,rfl,_,_,rfl,rfl,_,_,rfl,rfl,rfl⟩ ⟨mn,bn⟩ ((t04.trans t5).lay he)
end
abbrev Vi:Stmt:=top 13
abbrev N_law_plain_value:List Str:=["_law_feed_here","_law_shape"]
theorem sc_law_plain_value:Yk N_law_plain_value ["_law_feed_here","_law_shape"] (Zf Vi):=by trivial
theorem at0 {a:V} {l:List V}:atI (a::l) 0=some a:=Y8 (xs:=a::l) (j:=0) rfl
theorem Va {a b:V} {l:List V}:atI (a::b::l) 1=some b:=Y8 (xs:=a::b::l) (j:=1) rfl
theorem at2 {a b c:V} {l:List V}:atI (a::b::c::l) 2=some c:=Y8 (xs:=a::b::c::l) (j:=2) rfl
theorem at3 {a b c d:V} {l:List V}:atI (a::b::c::d::l) 3=some d:=Y8 (xs:=a::b::c::d::l) (j:=3) rfl
theorem are1 {K:W.Frag} {H:Hp} {a:Th} {ws:List V} (h:Zw K H [a] ws):∃ x,ws=[x]/\Zd K H a x:=by
 obtain ⟨x,r,rfl,i1,e⟩:=h
 cases (show r=[] from e)
 exact ⟨x,rfl,i1⟩
theorem are2 {K:W.Frag} {H:Hp} {a b:Th} {ws:List V} (h:Zw K H [a,b] ws):∃ x y,ws=[x,y]/\Zd K H a x/\Zd K H b y:=by
 obtain ⟨x,r,rfl,i1,y,r2,rfl,i2,e⟩:=h
 cases (show r2=[] from e)
 exact ⟨x,y,rfl,i1,i2⟩
theorem are3 {K:W.Frag} {H:Hp} {a b c:Th} {ws:List V} (h:Zw K H [a,b,c] ws):∃ x y z,ws=[x,y,z]/\Zd K H a x/\Zd K H b y/\Zd K H c z:=by
 obtain ⟨x,r,rfl,i1,y,r2,rfl,i2,z,r3,rfl,i3,e⟩:=h
 cases (show r3=[] from e)
 exact ⟨x,y,z,rfl,i1,i2,i3⟩
theorem are4 {K:W.Frag} {H:Hp} {a b c d:Th} {ws:List V} (h:Zw K H [a,b,c,d] ws):∃ x y z u,ws=[x,y,z,u]/\Zd K H a x/\Zd K H b y/\Zd K H c z/\Zd K H d u:=by
 obtain ⟨x,r,rfl,i1,y,r2,rfl,i2,z,r3,rfl,i3,u,r4,rfl,i4,e⟩:=h
 cases (show r4=[] from e)
 exact ⟨x,y,z,u,rfl,i1,i2,i3,i4⟩
theorem are_ints {K:W.Frag} {H:Hp}:∀ {ns:List Int} {ws:List V},Zw K H (ns.map Th.int) ws->ws=ns.map V.int
 | [],_,h=>h
 | n::ns,_,h=>by
  obtain ⟨v,r,rfl,e,a⟩:=h
  cases (show v=.int n from e)
  rw [are_ints a]; rfl
def numTh:Th->Th
 | .tup (a::_)=>a
 | t=>t
def TXTS:List Str:=["","a"," b-c","must 1",repS "~" (200:Int).toNat]
def plC (c:Nat):Prop:=32<=c/\c<127/\c≠39/\c≠92
instance (c:Nat):Decidable (plC c):=by unfold plC; infer_instance
def TxOk (x:Str):Prop:=(∀ c∈x.cps.toList,plC c)/\x.length<=200
theorem txts_ok:∀ x∈TXTS,TxOk x:=fun x m=>by
 have h:∀ x∈TXTS,(x.cps.toList.all fun c=>decide (plC c))=true/\x.length<=200:=by decide +kernel
 exact ⟨fun c mc=>of_decide_eq_true (List.all_eq_true.mp (h x m).1 c mc),(h x m).2⟩
mutual
def nqT:Th->Prop
 | .tup ts=>nqTs ts
 | .opq=>False
 | _=>True
def nqTs:List Th->Prop
 | []=>True
 | t::ts=>nqT t/\nqTs ts
end
theorem nqTs_all:∀ {ts:List Th},(∀ t∈ts,nqT t)->nqTs ts
 | [],_=>trivial
 | t::ts,h=>⟨h t List.mem_cons_self,nqTs_all fun x m=>h x (List.mem_cons_of_mem _ m)⟩
mutual
theorem isTh_nq {K:W.Frag} {H H':Hp} (u:Up K H H'):∀ (t:Th) (v:V),nqT t->Zd K H t v->Zd K H' t v
 | .non,_,_,h=>h
 | .bl _,_,_,h=>h
 | .int _,_,_,h=>h
 | .str _,_,_,h=>h
 | .tup ts,v,n,h=>by
  obtain ⟨a,vs,e,q,r⟩:=h
  exact ⟨a,vs,e,u a vs q,areTh_nq u ts vs n r⟩
 | .opq,v,n,h=>n.elim
theorem areTh_nq {K:W.Frag} {H H':Hp} (u:Up K H H'):∀ (ts:List Th) (vs:List V),nqTs ts->Zw K H ts vs->Zw K H' ts vs
 | [],_,_,h=>h
 | t::ts,vs,n,h=>by
  obtain ⟨v,r,e,q,w⟩:=h
  exact ⟨v,r,e,isTh_nq u t v n.1 q,areTh_nq u ts r n.2 w⟩
end
def Pv:Yr->Th->Prop
 | .whole _ _,.int i=>-ALL<=i/\i<=ALL
 | .truth,.bl _=>True
 | .text _,.str z=>TxOk z
 | .row _ _ _,.tup []=>True
 | _,_=>False
def spPlainV (K:W.Frag):Sp:=fun vs H Q _=>∃ (l:Addr) (v:V) (s:Yr) (ss:List Str) (r:Nat),vs=[.ref l,v]/\Zd K H s.t v/\Pln ss s/\Fd (r+1) H l/\∀ x u H',Zd K H' u x->Pv s u->Y5 l r H H'->Q x H'
section
variable {P:Program} {w:World} {K:W.Frag} {mg:Str->Option Value} {base:Heap} {f:Addr} {fd:FuncData}
theorem ok_plain_value (F:Fun K "_law_plain_value" "_law_plain_value" Vi f fd) (m:Bn mg) (g_law_draw:Fn P w K mg base 1 "_law_draw" ["_law_feed_here","_law_many"] spDraw):Y4 P w K mg base CX0 2 f fd ["_law_feed_here","_law_shape"] (spPlainV K):=by
 refine F.ok sc_law_plain_value (fun vs H Q E h=>?_) (fun cdv A outer s H vs Q E hr h=>?_)
 ·obtain ⟨l,v,t,ss,r,rfl,_⟩:=h
  rfl
 obtain ⟨l,v,s0,ss,r,rfl,ht,pl,fe,q⟩:=h
 have mmin:=m.min
 refine ⟨_,(@Zj _ _ _ _ _ (@Yz _ _ _ _ _ _ _ _ (@Zl _ _ _ _ _ _ _ _ Yf (@Zm _ _ _ _ _ _ _ Zt (pv 1) Zq (fun _ _=>rfl)) Zc (Zh _)) (@Zb _ _ _ (@Zp _ _ _ _ (@Zm _ _ _ _ _ _ _ Z1 (@Z7 _ _ _ _ (Zg (@Zm _ _ _ _ _ _ _ Zt (pv 1) Zq (fun _ _=>rfl)) (Zg (@Zm _ _ _ _ _ _ _ Zt (pv 1) Zq (fun _ _=>rfl)) (Zg (@Yy _ _ _ _ _ _ _ _ _ (call_min2 rfl) rfl mmin b_min (Zg (@Zm _ _ _ _ _ _ _ Zt (pv 1) Zq (fun _ _=>rfl)) (Zg (@Yx _ _ _ _ _ _ _ _ op_add (@Zm _ _ _ _ _ _ _ Zt (pv 1) Zq (fun _ _=>rfl)) Zq) Zx rfl) rfl) (by decide) (by decide) rfl rfl) Zx rfl) rfl) rfl)) (@Zy _ _ _ _ _ _ _ _ _ _ g_law_draw hr.m rfl (Zg (pv 0) (Zg Zq Zx rfl) rfl) (by decide) rfl rfl) (fun _ _=>rfl)))) Za) (@Zj _ _ _ _ _ (@Yz _ _ _ _ _ _ _ _ (@Zl _ _ _ _ _ _ _ _ Yf (@Zm _ _ _ _ _ _ _ Zt (pv 1) Zq (fun _ _=>rfl)) Zc (Zh _)) (@Zb _ _ _ (@Zp _ _ _ _ (@pe_cmpR _ _ _ _ _ _ _ _ Yf (@Zy _ _ _ _ _ _ _ _ _ _ g_law_draw hr.m rfl (Zg (pv 0) (Zg Zq Zx rfl) rfl) (by decide) rfl rfl) Zq (Zh _)))) Za) (@Zj _ _ _ _ _ (@Yz _ _ _ _ _ _ _ _ (@Zl _ _ _ _ _ _ _ _ Yf (@Zm _ _ _ _ _ _ _ Zt (pv 1) Zq (fun _ _=>rfl)) Zc (Zh _)) (@Zb _ _ _ (@Zp _ _ _ _ (@pe_slice _ _ _ _ _ _ _ _ _ _ sl_strG (@Zm _ _ _ _ _ _ _ Z1 (@Z7 _ _ _ _ (Zg Zc (Zg Zc (Zg Zc (Zg Zc (Zg (@Yx _ _ _ _ _ _ _ _ op_repS Zc Zq) Zx rfl) rfl) rfl) rfl) rfl)) (@Zy _ _ _ _ _ _ _ _ _ _ g_law_draw hr.m rfl (Zg (pv 0) (Zg Zq Zx rfl) rfl) (by decide) rfl rfl) (fun _ _=>rfl)) (@po_none _) (@po_some _ _ _ (@Zm _ _ _ _ _ _ _ Zt (pv 1) Zq (fun _ _=>rfl)))))) Za) (@Zb _ _ _ (@Zp _ _ _ _ (@Zu _ _ _ _ _ Zx)))))), ?_⟩
 cases s0 with
 | rcd _ _=>exact pl.elim
 | cho _ _ _=>exact pl.elim
 | whole lo hi =>
  obtain ⟨a,ws,rfl,ha,at'⟩:=ht
  obtain ⟨w1,w2,w3,rfl,i1,i2,i3⟩:=are3 at'
  cases (show w1=.str "whole" from i1)
  cases (show w2=.int lo from i2)
  cases (show w3=.int hi from i3)
  refine ⟨_,rfl,a,_,_,_,rfl,rfl,ha,at0,rfl,_,rfl,Yh (by decide +kernel) ?_⟩
  refine ⟨_,rfl,a,_,_,_,rfl,rfl,ha,Va,_,rfl,a,_,_,_,rfl,rfl,ha,at2,_,rfl,a,_,_,_,rfl,rfl,ha,at2,_,rfl,a,_,_,_,rfl,rfl,ha,Va,_,_,rfl,rfl,_,_,rfl,(sz 3),fun L hL=>?_⟩
  have t1:=(Y5.refl fe).lay (o:=.lst ([lo,hi,if lo+1<hi then lo+1 else hi].map V.int)) hL
  refine ⟨_,rfl,l,3,r,rfl,t1.feed,by decide,by decide,fun y H3 y0 y1 t3=>?_⟩
  obtain ⟨k,mk,ek⟩:=pickI [lo,hi,if lo+1<hi then lo+1 else hi] y0 y1
  refine ⟨L,_,_,_,rfl,rfl,Z0.of (t3.keep _ _ (fe.ne hL) Zz),ek, ?_⟩
  refine q _ (.int k) H3 rfl ?_ (t1.trans t3)
  obtain ⟨p1,p2,p3⟩:=pl
  simp only [List.mem_cons,List.not_mem_nil,or_false] at mk
  show -ALL<=k/\k<=ALL
  rcases mk with rfl | rfl | rfl
  ·omega
  ·omega
  ·split <;> omega
 | truth =>
  obtain ⟨a,ws,rfl,ha,at'⟩:=ht
  obtain ⟨w1,rfl,i1⟩:=are1 at'
  cases (show w1=.str "truth" from i1)
  refine ⟨_,rfl,a,_,_,_,rfl,rfl,ha,at0,rfl,_,rfl,Z5 (by decide +kernel) ?_⟩
  refine ⟨_,rfl,a,_,_,_,rfl,rfl,ha,at0,rfl,_,rfl,Yh (by decide +kernel) ?_⟩
  refine ⟨_,rfl,l,2,r,rfl,fe,by decide,by decide,fun y H3 y0 y1 t3=>?_⟩
  exact ⟨rfl,q _ (.bl _) H3 rfl trivial t3⟩
 | text n =>
  obtain ⟨n0,n1⟩:=pl
  obtain ⟨a,ws,rfl,ha,at'⟩:=ht
  obtain ⟨w1,w2,rfl,i1,i2⟩:=are2 at'
  cases (show w1=.str "text" from i1)
  cases (show w2=.int n from i2)
  refine ⟨_,rfl,a,_,_,_,rfl,rfl,ha,at0,rfl,_,rfl,Z5 (by decide +kernel) ?_⟩
  refine ⟨_,rfl,a,_,_,_,rfl,rfl,ha,at0,rfl,_,rfl,Z5 (by decide +kernel) ?_⟩
  refine ⟨_,rfl,a,_,_,_,rfl,rfl,ha,at0,rfl,_,rfl,Yh (by decide +kernel) ?_⟩
  refine ⟨_,_,rfl,rfl,by decide,by decide,by decide +kernel,by decide +kernel,(sz 5),fun L hL=>?_⟩
  have t1:=(Y5.refl fe).lay (o:=.lst (TXTS.map V.str)) hL
  refine ⟨_,rfl,l,5,r,rfl,t1.feed,by decide,by decide,fun y H3 y0 y1 t3=>?_⟩
  obtain ⟨x,mx,ex⟩:=pickS TXTS y0 y1
  have gx:=txts_ok x mx
  have t13:=t1.trans t3
  refine ⟨L,_,_,_,rfl,rfl,Z0.of (t3.keep _ _ (fe.ne hL) Zz),ex,_,rfl,a,_,_,_,rfl,rfl,(t13.up (K:=K) fe) _ _ ha,Va,_,rfl,x,rfl,Nat.le_trans gx.2 (by decide),fun z h1 _ h3=>?_⟩
  exact q _ (.str z) H3 rfl ⟨fun c mc=>gx.1 c (h3 c mc),Nat.le_trans h1 gx.2⟩ t13
 | row b x n =>
  obtain ⟨a,ws,rfl,ha,at'⟩:=ht
  obtain ⟨w1,w2,w3,rfl,i1,i2,i3⟩:=are3 at'
  have e1:∀ b:Bool,decide (V.str (if b=true then ("row" : Str) else "map")=V.str "whole")=false/\decide (V.str (if b=true then ("row" : Str) else "map")=V.str "truth")=false/\decide (V.str (if b=true then ("row" : Str) else "map")=V.str "text")=false:=by decide +kernel
  cases (show w1=.str (if b=true then "row" else "map") from i1)
  refine ⟨_,rfl,a,_,_,_,rfl,rfl,ha,at0,rfl,_,rfl,Z5 (e1 b).1 ?_⟩
  refine ⟨_,rfl,a,_,_,_,rfl,rfl,ha,at0,rfl,_,rfl,Z5 (e1 b).2.1 ?_⟩
  refine ⟨_,rfl,a,_,_,_,rfl,rfl,ha,at0,rfl,_,rfl,Z5 (e1 b).2.2 ?_⟩
  refine ⟨(sz 0),fun e he=>?_⟩
  exact q _ (.tup []) _ ⟨e,_,rfl,Z6.of Zz,rfl⟩ trivial (((Y5.refl fe).lay he).mono (by omega))
end
abbrev s_law_parts:Stmt:=top 15
abbrev N_law_parts:List Str:=["_law_feed_here","_law_names_here","_law_shapes","_law_called","_law_found","_law_k","_law_number","_law_inner","_law_default"]
theorem Y1:Yk N_law_parts ["_law_feed_here","_law_names_here","_law_shapes"] (Zf s_law_parts):=by trivial
def PC (ss:List Str) (s:Yr):Prop:=Pln ss s\/∃ fs us o,s=.cho fs us o
structure FldOk (ss:List Str) (pl:Str->Option Yr) (f:Vm):Prop where
 n:f.n∈NUMS
 y:f.y∈ss
 d:∀ u,f.d=some u->∃ s,pl f.y=some s/\Pv s u
structure PartsOk (ss:List Str) (pl:Str->Option Yr) (fs:List Vm):Prop where
 len:fs.length<=5
 form:∀ f∈fs,FldOk ss pl f
 nums:(fs.map Vm.n).Sublist NUMS
def DicP (K:W.Frag) (H:Hp) (ss:List Str) (pl:Str->Option Yr) (d:Addr):Prop:=∃ kvs:List (Yt × V),H d=some (.dK kvs)/\∀ x v,valV kvs (.inr x)=some v->∃ s,pl x=some s/\Zd K H (Yr.t s) v/\PC ss s
theorem DicP.up {K:W.Frag} {H H':Hp} {ss:List Str} {pl:Str->Option Yr} {d:Addr} (h:DicP K H ss pl d) (u:Vc K H H'):DicP K H' ss pl d:=by
 obtain ⟨kvs,e,g⟩:=h
 refine ⟨kvs,u.dct _ _ e,fun k v ev=>?_⟩
 obtain ⟨s,es,i,c⟩:=g k v ev
 exact ⟨s,es,Zd.up u _ _ i,c⟩
def spPartsD (K:W.Frag):Sp:=fun vs H Q _=>∃ (l p d:Addr) (ss:List Str) (pl:Str->Option Yr) (r:Nat),vs=[.ref l,.ref p,.ref d]/\H p=some (.lst (ss.map V.str))/\1<=ss.length/\ss.length<=12/\DicP K H ss pl d/\Fd (r+25) H l/\∀ v fs H',Zd K H' (.tup (fs.map Vm.t)) v->PartsOk ss pl fs->Y5 l r H H'->Q v H'
theorem plain_head {ss:List Str} {s:Yr} (h:Pln ss s):∃ (w0:Str) (r0:List Th),s.t=.tup (.str w0::r0)/\inV (.str w0) [.str "none",.str "choice"]=false:=by
 cases s with
 | whole lo hi=>exact ⟨_,_,rfl,by decide +kernel⟩
 | truth=>exact ⟨_,_,rfl,by decide +kernel⟩
 | text n=>exact ⟨_,_,rfl,by decide +kernel⟩
 | row b y n =>
  have e:∀ b:Bool,inV (.str (if b=true then ("row" : Str) else "map")) [.str "none",.str "choice"]=false:=by decide +kernel
  exact ⟨_,_,rfl,e b⟩
 | rcd _ _=>exact h.elim
 | cho _ _ _=>exact h.elim
structure Kq (K:W.Frag) (l C N D:Addr) (H:Hp) (cs:List Str) (ns:List Int) (ws:List V) (fs:List Th) (r:Nat) (Ha:Hp):Prop where
 st:Y5 l r H Ha
 c:Ha C=some (.lst (cs.map V.str))
 n:Ha N=some (.lst (ns.map V.int))
 d:Ha D=some (.lst ws)
 a:Zw K Ha fs ws
theorem Kq.same {K:W.Frag} {l C N D:Addr} {H:Hp} {cs:List Str} {ns:List Int} {ws:List V} {fs:List Th} {r:Nat} {Ha Hb:Hp} (k:Kq K l C N D H cs ns ws fs r Ha) (s:Zv Ha Hb):Kq K l C N D H cs ns ws fs r Hb :=
 ⟨k.st.same s,s _ _ k.c,s _ _ k.n,s _ _ k.d,Zw.up s.upT _ _ k.a⟩
theorem Kq.step {K:W.Frag} {l C N D:Addr} {H:Hp} {cs:List Str} {ns:List Int} {ws:List V} {fs:List Th} {r r':Nat} {Ha Hb:Hp} (k:Kq K l C N D H cs ns ws fs r Ha) (t:Y5 l r' Ha Hb) (c:C≠l) (n:N≠l) (d:D≠l):Kq K l C N D H cs ns ws fs r' Hb :=
 ⟨k.st.trans t,t.keep _ _ c k.c,t.keep _ _ n k.n,t.keep _ _ d k.d,Zw.up (t.upT k.st.feed) _ _ k.a⟩
section
variable {P:Program} {w:World} {K:W.Frag} {mg:Str->Option Value} {base:Heap} {f:Addr} {fd:FuncData}
theorem ok_partsD (F:Fun K "_law_parts" "_law_parts" s_law_parts f fd) (m:Bn mg) (g_law_draw:Fn P w K mg base 1 "_law_draw" ["_law_feed_here","_law_many"] spDraw) (g_law_names:Fn P w K mg base 2 "_law_names" ["_law_feed_here","_law_many"] spNames)
  (g_law_numbers:Fn P w K mg base 2 "_law_numbers" ["_law_feed_here","_law_most"] spNumbers) (g_law_plain_value:Fn P w K mg base 2 "_law_plain_value" ["_law_feed_here","_law_shape"] (spPlainV K)):Y4 P w K mg base CX0 3 f fd ["_law_feed_here","_law_names_here","_law_shapes"] (spPartsD K):=by
 refine F.ok Y1 (fun vs H Q E h=>?_) (fun cdv A outer s H vs Q E hr h=>?_)
 ·obtain ⟨l,p,d,ss,pl,r,rfl,_⟩:=h
  rfl
 obtain ⟨l,p,d,ss,pl,r,rfl,hp,l1,l2,dp,fe,q⟩:=h
 refine ⟨_,(@Zj _ _ _ _ _ (@Zo _ 3 _ _ _ _ _ Y1.nd rfl (by trivial) (@Zy _ _ _ _ _ _ _ _ _ _ g_law_names hr.m rfl (Zg (pv 0) (Zg Zq Zx rfl) rfl) (by decide) rfl rfl) rfl (by trivial)) (@Zj _ _ _ _ _ (@Zo _ 4 _ _ _ _ _ Y1.nd rfl (by trivial) (@Z7 _ _ _ _ Zx) rfl (by trivial)) (@Zj _ _ _ _ _ (@ps_for _ _ _ _ _ _ _ _ PassesOwn.never rfl (pi_enumL rfl m.enumerate (Zg (@Zy _ _ _ _ _ _ _ _ _ _ g_law_numbers hr.m rfl (Zg (pv 0) (Zg Zq Zx rfl) rfl) (by decide) rfl rfl) Zx rfl)) (@pg_tup _ _ _ _ _ _ rfl (@Yj _ _ _ _ _ (@Zn _ 5 _ _ Y1.nd rfl (by trivial) (by trivial)) (@Yj _ _ _ _ _ (@Zn _ 6 _ _ Y1.nd rfl (by trivial) (by trivial)) pgs_nil (by trivial)) (by trivial)) (by trivial) (by trivial)) (@Zj _ _ _ _ _ (@Zo _ 7 _ _ _ _ _ Y1.nd rfl (by trivial) (@Zm _ _ _ _ _ _ _ Z1 (pv 1) (@Zy _ _ _ _ _ _ _ _ _ _ g_law_draw hr.m rfl (Zg (pv 0) (Zg (@Yy _ _ _ _ _ _ _ _ _ Yl rfl m.len b_len (Zg (pv 1) Zx rfl) (by decide) (by decide) rfl rfl) Zx rfl) rfl) (by decide) rfl rfl) (fun _ _=>rfl)) rfl (by trivial)) (@Zj _ _ _ _ _ (@Zo _ 8 _ _ _ _ _ Y1.nd rfl (by trivial) (@Zu _ _ _ _ _ Zx) rfl (by trivial)) (@Zj _ _ _ _ _ (@Yz _ _ _ _ _ _ _ _ (@PW.pt _ _ _ (@pw_and _ _ _ _ _ _ _ (@Zl _ _ _ _ _ _ _ _ op_notIn_seq (@Zm _ _ _ _ _ _ _ Zt (@pe_dget2 _ _ _ _ _ _ _ _ _ (hu_of hr) (pv 2) (pv 7) (@Zu _ _ _ _ _ (Zg Zc Zx rfl)) ⟨rfl,rfl,rfl,rfl⟩) Zq (fun _ _=>rfl)) (@Zu _ _ _ _ _ (Zg Zc (Zg Zc Zx rfl) rfl)) rfl) (@pw_and1 _ _ _ _ (@Zl _ _ _ _ _ _ _ _ Yf (@Zy _ _ _ _ _ _ _ _ _ _ g_law_draw hr.m rfl (Zg (pv 0) (Zg Zq Zx rfl) rfl) (by decide) rfl rfl) Zq (Zh _))))) (@Zb _ _ _ (@Zo _ 8 _ _ _ _ _ Y1.nd rfl (by trivial) (@Zu _ _ _ _ _ (Zg (@Zy _ _ _ _ _ _ _ _ _ _ g_law_plain_value hr.m rfl (Zg (pv 0) (Zg (@pe_dget _ _ _ _ _ _ (hu_of hr) (pv 2) (pv 7) (fun _ _=>rfl)) Zx rfl) rfl) (by decide) rfl rfl) Zx rfl)) rfl (by trivial))) Za) (@Zb _ _ _ (@ps_expr _ _ _ _ (@pe_bm _ _ _ _ _ _ _ _ _ _ _ _ PySem.F.plainAttrs_list PySem.F.slot_list_append PySem.F.type_list_append mt_append (pv 4) (Zg (@Zu _ _ _ _ _ (Zg (pv 6) (Zg (@Zm _ _ _ _ _ _ _ Z1 (pv 3) (pv 5) (fun _ _=>rfl)) (Zg (pv 7) (Zg (pv 8) Zx rfl) rfl) rfl) rfl)) Zx rfl) (by trivial) (by trivial) (by trivial) (by trivial) (by trivial)) rfl))))) (by trivial)) (@Zb _ _ _ (@Zp _ _ _ _ (@Ze _ _ _ _ _ _ _ _ _ Zi rfl m.tuple Ya (Zg (pv 4) Zx rfl) (by trivial) (by trivial) (by trivial) (by trivial))))))), ?_⟩
 have np:=strs_ne fe hp
 refine ⟨_,rfl,l,8,r+23,rfl,fe,by decide,fun C cs H1 hC nC okC t1=>?_⟩
 have nCl:C≠l:=fe.ne nC
 refine ⟨(sz 0),fun D hD=>?_⟩
 have t2:=t1.lay (o:=.lst []) hD
 have nD:H D=none:=t1.free hD
 have nDl:D≠l:=fe.ne nD
 have hC2:=(Zv.lay (o:=.lst []) hD) _ _ hC
 have nDC:D≠C:=fun e=>by rw [e,hC] at hD; cases hD
 refine ⟨_,rfl,l,5,r+15,rfl,t2.feed.mono (by omega),fun N ns H3 hN nN sbN lnN t3=>?_⟩
 have t03:=t2.trans t3
 have nNl:N≠l:=t2.feed.ne nN
 have hC3:=t3.keep _ _ nCl hC2
 have hD3:H3 D=some (.lst []):=t3.keep _ _ nDl Zz
 have nDN:D≠N:=fun e=>by rw [<-e,Zz] at nN; cases nN
 have hp3:=t03.keep _ _ np hp
 have npD:p≠D:=Z4 hp nD
 refine ⟨N,_,rfl,Z0.of hN, ?_⟩
 refine for_enumL (xs:=ns.map V.int) (fun i σ H5=>(∃ o5 o6 o7 o8,σ=[some (.ref l),some (.ref p),some (.ref d),some (.ref C),some (.ref D),o5,o6,o7,o8])/\Y5 l (r+3 * (5 - i)) H H5/\H5 C=some (.lst (cs.map V.str))/\H5 N=some (.lst (ns.map V.int)) /\
   ∃ (fs:List Vm) (ws:List V),H5 D=some (.lst ws)/\Zw K H5 (fs.map Vm.t) ws/\(∀ f∈fs,FldOk ss pl f)/\fs.map Vm.n=ns.take i)
  ⟨⟨_,_,_,_,rfl⟩,t03.mono (by omega),hC3,hN,[],[],hD3,rfl,fun f m=>absurd m List.not_mem_nil,rfl⟩ ?_ ?_ ?_
 ·rintro i σ H5 hi ⟨_,_,_,h5,_⟩
  exact Z0.of h5
 ·rintro i x e σ H5 hx ⟨⟨o5,o6,o7,o8,rfl⟩,t5,h5C,h5N,fs,ws,h5D,af,ff,fn⟩ he
  rw [List.getElem?_map] at hx
  obtain ⟨n,en,rfl⟩:=Option.map_eq_some_iff.mp hx
  have hi:i<ns.length:=(List.getElem?_eq_some_iff.mp en).1
  have nN:n∈NUMS:=sbN.subset (List.mem_of_getElem? en)
  have ic:i<cs.length:=by rw [okC.len]; omega
  have ec:cs[i]?=some cs[i]:=List.getElem?_eq_getElem ic
  have mC:cs[i]∈cs:=List.getElem_mem ic
  have eC:atI (cs.map V.str) (i:Int)=some (.str cs[i]):=Y8 (by rw [List.getElem?_map,ec]; rfl)
  generalize cs[i]=cx at ec mC eC
  have wl:ws.length<sizeLine:=by
   have:fs.length=i:=by
    have z:=congrArg List.length fn
    rw [List.length_map,List.length_take] at z
    omega
   rw [<-af.length,List.length_map]
   exact Nat.lt_of_le_of_lt (show fs.length<=8 by omega) (by decide)
  have k5:Kq K l C N D H cs ns ws (fs.map Vm.t) (r+3 * (5 - i)) H5:=⟨t5,h5C,h5N,h5D,af⟩
  have k6:=k5.same (Zv.lay (o:=.tup [.int i,.int n]) he)
  refine ⟨e,_,rfl,Z6.of Zz,rfl,_,_,rfl,_,_,rfl,rfl, ?_⟩
  have hp6:=k6.st.keep _ _ np hp
  refine ⟨_,rfl,_,rfl,_,rfl,p,_,rfl,.inl (Z0.of hp6),l,_,r+3 * (5 - (i+1))+2,rfl,k6.st.feed.mono (by omega), ?_, ?_,fun y H7 y0 y1 t7=>?_⟩
  ·rw [List.length_map]; omega
  ·rw [List.length_map]; omega
  obtain ⟨nm,mn,enm⟩:=pickS ss y0 (by rw [List.length_map] at y1; exact y1)
  have k7:=k6.step t7 nCl nNl nDl
  refine ⟨p,_,_,_,rfl,rfl,Z0.of (k7.st.keep _ _ np hp),enm,(sz 0),fun ed hed=>?_⟩
  have k8:=k7.same (Zv.lay (o:=.tup []) hed)
  have i8:Zd K (Z3 H7 ed (.tup [])) (.tup []) (.ref ed):=⟨ed,[],rfl,Z6.of Zz,rfl⟩
  obtain ⟨kvs,hd8,g8⟩:=dp.up (k8.st.upT fe)
  refine ⟨_,rfl,d,rfl,.inl ⟨_,.inl hd8⟩,_,rfl,(sz 1),fun e9 h9=>?_⟩
  have s9:=Zv.lay (o:=.tup [.str "none"]) h9
  have k9:=k8.same s9
  refine ⟨_,DGet.k (k:=.inr nm) (s9 _ _ hd8), ?_⟩
  cases hv:valV kvs (.inr nm) with
  | none =>
   refine ⟨e9,_,_,_,rfl,rfl,Z6.of Zz,at0,(sz 2),fun e10 h10=>?_⟩
   have s10:=Zv.lay (o:=.tup [.str "none",.str "choice"]) h10
   refine ⟨e10,_,rfl,.inr (Z6.of Zz),rfl,rfl,_,rfl,Z5 (by decide +kernel) (iteF ?_)⟩
   have kT:=(k9.same s10)
   obtain ⟨od,iD,okD⟩:∃ od:Option Th,Zd K _ (.tup od.toList) (.ref ed)/\(∀ u,od=some u->∃ s,pl nm=some s/\Pv s u):=⟨none,Zd.up (s9.trans s10).upT _ _ i8,fun u e=>nomatch e⟩
   refine ⟨_,rfl,.inl ⟨rfl,_,Z0.of kT.d⟩,_,rfl,_,rfl,_,rfl,C,_,_,_,rfl,rfl,Z0.of kT.c,eC,_,rfl,_,rfl,(sz 4),fun eT hT=>?_⟩
   have sT:=Zv.lay (o:=.tup [.int n,.str cx,.str nm,.ref ed]) hT
   have kU:=kT.same sT
   refine ⟨D,ws,_,rfl,rfl,kU.d,wl, ?_⟩
   have uD:Vc K _ (Z3 _ D (.lst (ws++[.ref eT]))):=Yv kU.d
   have fT:FldOk ss pl ⟨n,cx,nm,od⟩:=⟨nN,mn,okD⟩
   refine ⟨⟨_,_,_,_,rfl⟩,(kU.st.put nD (fe.far nD)).mono (by omega),by rw [Zk nDC.symm]; exact kU.c,by rw [Zk nDN.symm]; exact kU.n,fs++[⟨n,cx,nm,od⟩],_,Zz, ?_,fun g mg=>?_, ?_⟩
   ·rw [List.map_append]; refine Zw.append (Zw.up uD _ _ kU.a) (Zw.one (Zd.up uD _ _ ⟨eT,_,rfl,Z6.of Zz, ?_⟩))
    exact ⟨_,_,rfl,rfl,_,_,rfl,rfl,_,_,rfl,rfl,_,_,rfl,Zd.up sT.upT _ _ iD,rfl⟩
   ·rcases List.mem_append.mp mg with mg | mg
    ·exact ff g mg
    ·rw [List.mem_singleton.mp mg]; exact fT
   ·rw [List.map_append,fn,Zr en]; rfl
  | some v =>
   obtain ⟨s,es,it,ct⟩:=g8 _ _ hv
   have it9:=Zd.up s9.upT _ _ it
   rcases ct with pt | ⟨cf,cu,co,rfl⟩
   ·obtain ⟨w0,r0,et,nw⟩:=plain_head pt
    rw [et] at it9
    obtain ⟨pv,vs,rfl,hv9,v0,vr,rfl,i0,_⟩:=it9
    cases (show v0=.str w0 from i0)
    refine ⟨pv,_,_,_,rfl,rfl,hv9,at0,(sz 2),fun e10 h10=>?_⟩
    have s10:=Zv.lay (o:=.tup [.str "none",.str "choice"]) h10
    have k10:=k9.same s10
    refine ⟨e10,_,rfl,.inr (Z6.of Zz),rfl,rfl,_,rfl,Yh (by rw [nw]; rfl) ?_⟩
    refine ⟨_,rfl,l,2,r+3 * (5 - (i+1))+1,rfl,k10.st.feed.mono (by omega),by decide,by decide,fun z H11 z0 z1 t11=>?_⟩
    have k11:=k10.step t11 nCl nNl nDl
    refine ⟨rfl,_,rfl, ?_⟩
    refine V1 (fun cz=>?_) (fun cz=>?_)
    ·have u811:Vc K (Z3 H7 ed (.tup [])) H11:=(s9.trans s10).upT.trans (t11.upT k10.st.feed)
     refine ⟨_,rfl,_,rfl,_,rfl,d,_,rfl,(show DGet H11 d (kV (.inr nm)) (some (.ref pv)) from hv ▸ DGet.k (k:=.inr nm) (u811.dct _ _ hd8)),l,.ref pv,s,ss,r+3 * (5 - (i+1)),rfl,Zd.up u811 _ _ it,pt,k11.st.feed,fun x u H12 ix lu t12=>?_⟩
     have k12:=k11.step t12 nCl nNl nDl
     refine ⟨(sz 1),fun ed hed2=>?_⟩
     have s13:=Zv.lay (o:=.tup [x]) hed2
     have kT:=k12.same s13
     obtain ⟨od,iD,okD⟩:∃ od:Option Th,Zd K (Z3 H12 ed (.tup [x])) (.tup od.toList) (.ref ed)/\(∀ u,od=some u->∃ s,pl nm=some s/\Pv s u):=⟨some u,⟨ed,_,rfl,Z6.of Zz,Zw.one (Zd.up s13.upT _ _ ix)⟩,fun u' e'=>by cases e'; exact ⟨s,es,lu⟩⟩
     refine ⟨_,rfl,.inl ⟨rfl,_,Z0.of kT.d⟩,_,rfl,_,rfl,_,rfl,C,_,_,_,rfl,rfl,Z0.of kT.c,eC,_,rfl,_,rfl,(sz 4),fun eT hT=>?_⟩
     have sT:=Zv.lay (o:=.tup [.int n,.str cx,.str nm,.ref ed]) hT
     have kU:=kT.same sT
     refine ⟨D,ws,_,rfl,rfl,kU.d,wl, ?_⟩
     have uD:Vc K _ (Z3 _ D (.lst (ws++[.ref eT]))):=Yv kU.d
     have fT:FldOk ss pl ⟨n,cx,nm,od⟩:=⟨nN,mn,okD⟩
     refine ⟨⟨_,_,_,_,rfl⟩,(kU.st.put nD (fe.far nD)).mono (by omega),by rw [Zk nDC.symm]; exact kU.c,by rw [Zk nDN.symm]; exact kU.n,fs++[⟨n,cx,nm,od⟩],_,Zz, ?_,fun g mg=>?_, ?_⟩
     ·rw [List.map_append]; refine Zw.append (Zw.up uD _ _ kU.a) (Zw.one (Zd.up uD _ _ ⟨eT,_,rfl,Z6.of Zz, ?_⟩))
      exact ⟨_,_,rfl,rfl,_,_,rfl,rfl,_,_,rfl,rfl,_,_,rfl,Zd.up sT.upT _ _ iD,rfl⟩
     ·rcases List.mem_append.mp mg with mg | mg
      ·exact ff g mg
      ·rw [List.mem_singleton.mp mg]; exact fT
     ·rw [List.map_append,fn,Zr en]; rfl
    ·have kT:=k11
     obtain ⟨od,iD,okD⟩:∃ od:Option Th,Zd K _ (.tup od.toList) (.ref ed)/\(∀ u,od=some u->∃ s,pl nm=some s/\Pv s u):=⟨none,Zd.up ((s9.trans s10).upT.trans (t11.upT k10.st.feed)) _ _ i8,fun u e=>nomatch e⟩
     refine ⟨_,rfl,.inl ⟨rfl,_,Z0.of kT.d⟩,_,rfl,_,rfl,_,rfl,C,_,_,_,rfl,rfl,Z0.of kT.c,eC,_,rfl,_,rfl,(sz 4),fun eT hT=>?_⟩
     have sT:=Zv.lay (o:=.tup [.int n,.str cx,.str nm,.ref ed]) hT
     have kU:=kT.same sT
     refine ⟨D,ws,_,rfl,rfl,kU.d,wl, ?_⟩
     have uD:Vc K _ (Z3 _ D (.lst (ws++[.ref eT]))):=Yv kU.d
     have fT:FldOk ss pl ⟨n,cx,nm,od⟩:=⟨nN,mn,okD⟩
     refine ⟨⟨_,_,_,_,rfl⟩,(kU.st.put nD (fe.far nD)).mono (by omega),by rw [Zk nDC.symm]; exact kU.c,by rw [Zk nDN.symm]; exact kU.n,fs++[⟨n,cx,nm,od⟩],_,Zz, ?_,fun g mg=>?_, ?_⟩
     ·rw [List.map_append]; refine Zw.append (Zw.up uD _ _ kU.a) (Zw.one (Zd.up uD _ _ ⟨eT,_,rfl,Z6.of Zz, ?_⟩))
      exact ⟨_,_,rfl,rfl,_,_,rfl,rfl,_,_,rfl,rfl,_,_,rfl,Zd.up sT.upT _ _ iD,rfl⟩
     ·rcases List.mem_append.mp mg with mg | mg
      ·exact ff g mg
      ·rw [List.mem_singleton.mp mg]; exact fT
     ·rw [List.map_append,fn,Zr en]; rfl
   ·obtain ⟨pv,vs,rfl,hv9,v0,vr,rfl,i0,_⟩:=it9
    cases (show v0=.str "choice" from i0)
    refine ⟨pv,_,_,_,rfl,rfl,hv9,at0,(sz 2),fun e10 h10=>?_⟩
    have s10:=Zv.lay (o:=.tup [.str "none",.str "choice"]) h10
    refine ⟨e10,_,rfl,.inr (Z6.of Zz),rfl,rfl,_,rfl,Z5 (by decide +kernel) (iteF ?_)⟩
    have kT:=(k9.same s10)
    obtain ⟨od,iD,okD⟩:∃ od:Option Th,Zd K _ (.tup od.toList) (.ref ed)/\(∀ u,od=some u->∃ s,pl nm=some s/\Pv s u):=⟨none,Zd.up (s9.trans s10).upT _ _ i8,fun u e=>nomatch e⟩
    refine ⟨_,rfl,.inl ⟨rfl,_,Z0.of kT.d⟩,_,rfl,_,rfl,_,rfl,C,_,_,_,rfl,rfl,Z0.of kT.c,eC,_,rfl,_,rfl,(sz 4),fun eT hT=>?_⟩
    have sT:=Zv.lay (o:=.tup [.int n,.str cx,.str nm,.ref ed]) hT
    have kU:=kT.same sT
    refine ⟨D,ws,_,rfl,rfl,kU.d,wl, ?_⟩
    have uD:Vc K _ (Z3 _ D (.lst (ws++[.ref eT]))):=Yv kU.d
    have fT:FldOk ss pl ⟨n,cx,nm,od⟩:=⟨nN,mn,okD⟩
    refine ⟨⟨_,_,_,_,rfl⟩,(kU.st.put nD (fe.far nD)).mono (by omega),by rw [Zk nDC.symm]; exact kU.c,by rw [Zk nDN.symm]; exact kU.n,fs++[⟨n,cx,nm,od⟩],_,Zz, ?_,fun g mg=>?_, ?_⟩
    ·rw [List.map_append]; refine Zw.append (Zw.up uD _ _ kU.a) (Zw.one (Zd.up uD _ _ ⟨eT,_,rfl,Z6.of Zz, ?_⟩))
     exact ⟨_,_,rfl,rfl,_,_,rfl,rfl,_,_,rfl,rfl,_,_,rfl,Zd.up sT.upT _ _ iD,rfl⟩
    ·rcases List.mem_append.mp mg with mg | mg
     ·exact ff g mg
     ·rw [List.mem_singleton.mp mg]; exact fT
    ·rw [List.map_append,fn,Zr en]; rfl
 ·rintro σ H5 ⟨⟨o5,o6,o7,o8,rfl⟩,t5,h5C,h5N,fs,ws,h5D,af,ff,fn⟩
  refine ⟨_,rfl,D,ws,rfl,.inl ⟨Z0.of h5D,fun e he=>?_⟩⟩
  have s6:=Zv.lay (o:=.tup ws) he
  rw [List.take_of_length_le (by rw [List.length_map]; exact Nat.le_refl _)] at fn
  have fl:fs.length=ns.length:=by rw [<-fn,List.length_map]
  refine q (.ref e) fs _ ⟨e,ws,rfl,Z6.of Zz,Zw.up s6.upT _ _ af⟩ ⟨by omega,ff,by rw [fn]; exact sbN⟩ ((t5.same s6).mono (by omega))
end
abbrev s_law_make:Stmt:=top 16
abbrev N_law_make:List Str:=["_law_feed_here","_law_names_here","_law_shapes","_law_name","_law_way","_law_arms","_law_struck_here","_law_plain","_law_parts_here"]
theorem Yo:Yk N_law_make ["_law_feed_here"] (Zf s_law_make):=by trivial
structure UpO (K:W.Frag) (H H':Hp):Prop where
 tup:Up K H H'
 lst:∀ a xs,H a=some (.lst xs)->∃ ys,H' a=some (.lst ys)
 dct:∀ a kvs,H a=some (.dK kvs)->∃ kvs',H' a=some (.dK kvs')
theorem upO_of {K:W.Frag} {H H':Hp} (u:Vc K H H'):UpO K H H':=⟨u.tup,u.lst,fun a k h=>⟨k,u.dct a k h⟩⟩
mutual
theorem isTh_upO {K:W.Frag} {H H':Hp} (u:UpO K H H'):∀ (t:Th) (v:V),Zd K H t v->Zd K H' t v
 | .non,_,h=>h
 | .bl _,_,h=>h
 | .int _,_,h=>h
 | .str _,_,h=>h
 | .tup ts,v,h=>by
  obtain ⟨a,vs,e,q,r⟩:=h
  exact ⟨a,vs,e,u.tup a vs q,areTh_upO u ts vs r⟩
 | .opq,v,h=>by
  obtain ⟨a,e,q⟩:=h
  refine ⟨a,e, ?_⟩
  rcases q with ⟨xs,q⟩ | ⟨k,q⟩
  ·exact .inl (u.lst a xs q)
  ·exact .inr (u.dct a k q)
theorem areTh_upO {K:W.Frag} {H H':Hp} (u:UpO K H H'):∀ (ts:List Th) (vs:List V),Zw K H ts vs->Zw K H' ts vs
 | [],_,h=>h
 | t::ts,vs,h=>by
  obtain ⟨v,r,e,q,w⟩:=h
  exact ⟨v,r,e,isTh_upO u t v q,areTh_upO u ts r w⟩
end
theorem upO_put {K:W.Frag} {H:Hp} {S:Addr} {kvs kvs':List (Yt × V)} (h:H S=some (.dK kvs)):UpO K H (Z3 H S (.dK kvs')):=by
 have ne:∀ {x:Addr} {o:HO},H x=some o->(∀ k,o≠.dK k)->x≠S:=fun e n z=>by
  rw [z,h] at e
  cases e
  exact n _ rfl
 refine ⟨fun c xs q=>?_,fun a xs q=>⟨xs,by rw [Zk (ne q fun _ z=>nomatch z)]; exact q⟩,fun a k q=>?_⟩
 ·rcases q with (q | ⟨o,q⟩) | q
  ·exact .inl (.inl (by rw [Zk (ne q fun _ z=>nomatch z)]; exact q))
  ·exact .inl (.inr ⟨o,by rw [Zk (ne q fun _ z=>nomatch z)]; exact q⟩)
  ·exact .inr q
 ·by_cases z:a=S
  ·exact ⟨kvs',by rw [z,Zz]⟩
  ·exact ⟨k,by rw [Zk z]; exact q⟩
def lkM:List (Str × Yr)->Str->Option Yr
 | [],_=>none
 | (y,s)::r,x=>if y=x then some s else lkM r x
theorem lkM_app {a b:List (Str × Yr)} {x:Str}:lkM (a++b) x=(lkM a x).or (lkM b x):=by
 induction a with
 | nil=>simp [lkM]
 | cons p a ih =>
  obtain ⟨y,s⟩:=p
  by_cases h:y=x
  ·simp [lkM,h]
  ·simp [lkM,h,ih]
theorem lkM_none {a:List (Str × Yr)} {x:Str}:lkM a x=none ↔ x ∉ a.map (·.1):=by
 induction a with
 | nil=>simp [lkM]
 | cons p a ih =>
  obtain ⟨y,s⟩:=p
  by_cases h:y=x
  ·simp [lkM,h]
  ·have h':¬ x=y:=fun z=>h z.symm
   simp [lkM,h,h',ih]
theorem lkM_mem {a:List (Str × Yr)} {x:Str} {s:Yr} (h:lkM a x=some s):(x,s)∈a:=by
 induction a with
 | nil=>cases h
 | cons p a ih =>
  obtain ⟨y,s'⟩:=p
  by_cases e:y=x
  ·simp only [lkM,e,if_true] at h
   cases h; rw [e]; exact List.mem_cons_self
  ·simp only [lkM,e,if_false] at h
   exact List.mem_cons_of_mem _ (ih h)
def Dm (K:W.Frag) (H:Hp):List (Yt × V)->List (Str × Yr)->Prop:=Paired fun p m=>p.1=.inr m.1/\Zd K H m.2.t p.2
theorem Dm.up {K:W.Frag} {H H':Hp} {kvs:List (Yt × V)} {ms:List (Str × Yr)} (h:Dm K H kvs ms) (u:UpO K H H'):Dm K H' kvs ms:=Paired.mapP h fun _ _ z=>⟨z.1,isTh_upO u _ _ z.2⟩
theorem Dm.val {K:W.Frag} {H:Hp}:∀ {kvs:List (Yt × V)} {ms:List (Str × Yr)},Dm K H kvs ms->∀ x,(lkM ms x=none/\valV kvs (.inr x)=none)\/∃ s v,lkM ms x=some s/\valV kvs (.inr x)=some v/\Zd K H s.t v
 | _,_,.nil,x=>.inl ⟨rfl,rfl⟩
 | (k,v)::kvs,(y,s)::ms,.cons r t,x=>by
  have rk:k=.inr y:=r.1
  subst rk
  by_cases e:y=x
  ·subst e
   exact .inr ⟨s,v,by simp [lkM],valV_pos rfl,r.2⟩
  ·have e':¬ ((Sum.inr y,v):Yt × V).1=Sum.inr x:=fun z=>e (Sum.inr.inj z)
   rw [valV_neg e']
   simp only [lkM,e,if_false]
   exact Dm.val t x
theorem Dm.keys {K:W.Frag} {H:Hp}:∀ {kvs:List (Yt × V)} {ms:List (Str × Yr)},Dm K H kvs ms->kvs.map (·.1)=ms.map fun p=>Sum.inr p.1
 | _,_,.nil=>rfl
 | (k,v)::kvs,(y,s)::ms,.cons r t=>by
  rw [List.map_cons,List.map_cons,Dm.keys t]
  exact congrArg (·::_) r.1
theorem Dm.snoc {K:W.Frag} {H:Hp} {kvs:List (Yt × V)} {ms:List (Str × Yr)} (h:Dm K H kvs ms) {x:Str} {v:V} {s:Yr} (i:Zd K H s.t v):Dm K H (kvs++[(.inr x,v)]) (ms++[(x,s)]):=by
 induction h with
 | nil=>exact .cons ⟨rfl,i⟩ .nil
 | cons r t ih=>exact .cons r ih
structure Mk (K:W.Frag) (l C S:Addr) (H:Hp) (cs:List Str) (ms:List (Str × Yr)) (r:Nat) (Ha:Hp):Prop where
 st:Y5 l r H Ha
 c:Ha C=some (.lst (cs.map V.str))
 d:∃ kvs,Ha S=some (.dK kvs)/\Dm K Ha kvs ms
section
variable {K:W.Frag} {l C S:Addr} {H Ha Hb:Hp} {cs:List Str} {ms:List (Str × Yr)} {r r':Nat}
theorem Mk.same (k:Mk K l C S H cs ms r Ha) (s:Zv Ha Hb):Mk K l C S H cs ms r Hb :=
 let ⟨kvs,e,g⟩:=k.d
 ⟨k.st.same s,s _ _ k.c,kvs,s _ _ e,g.up (upO_of s.upT)⟩
theorem Mk.step (k:Mk K l C S H cs ms r Ha) (t:Y5 l r' Ha Hb) (c:C≠l) (d:S≠l):Mk K l C S H cs ms r' Hb :=
 let ⟨kvs,e,g⟩:=k.d
 ⟨k.st.trans t,t.keep _ _ c k.c,kvs,t.keep _ _ d e,g.up (upO_of (t.upT k.st.feed))⟩
theorem Mk.mono (k:Mk K l C S H cs ms r Ha) (h:r'<=r):Mk K l C S H cs ms r' Ha:=⟨k.st.mono h,k.c,k.d⟩
theorem Mk.put (k:Mk K l C S H cs ms r Ha) (fe:Fd r' H l) (nS:H S=none) (nCS:C≠S) {x:Str} {v:V} {s:Yr} (i:Zd K Ha s.t v) (hn:ms.length<sizeLine) (nx:lkM ms x=none):∃ Hb,DPut Ha S (kV (.inr x)) v Hb/\Mk K l C S H cs (ms++[(x,s)]) r Hb/\(∀ a,a≠S->Hb a=Ha a)/\UpO K Ha Hb:=by
 obtain ⟨kvs,e,g⟩:=k.d
 have vn:valV kvs (.inr x)=none:=by
  rcases g.val x with ⟨_,z⟩ | ⟨s',v',z,_⟩
  ·exact z
  ·rw [nx] at z; cases z
 have lk:kvs.length=ms.length:=Paired.length g
 refine ⟨_,.inl ⟨kvs,.inr x,e,rfl,by omega,rfl⟩,⟨k.st.put nS (fe.far nS),by rw [Zk nCS]; exact k.c,_,Zz, ?_⟩,fun a n=>Zk n,upO_put e⟩
 rw [putK_new v vn]
 exact (g.snoc i).up (upO_put e)
end
theorem compT_list {K:PySem.W.Frag} {H:Hp} {a D:Addr} {xs:List V} {ts:List Th} {te:TE} {fin:Hp->Prop} {τ:L2.St} {o:Option V} {f:Th->Th} (ha:Z0 K H a xs) (hA:Zw K H ts xs) (hl:ts.length<=1000000) (hD:H D=none)
  (h:∀ t v H5 (Q:VK),t∈ts->Zv H H5->Zd K H5 t v->(∀ v' H6,Zv H5 H6->Zd K H6 (f t) v'->Q v' H6)->te (some v::τ) H5 Q)
  (hf:∀ H6 ws,Zv H H6->H6 D=some (.lst ws)->Zw K H6 (ts.map f) ws->fin H6) :
  ∃ W:Nat->Nat->List V->L2.St->Hp->Prop,(∃ m,W 0 m [] (o::τ) (Z3 H D (.lst [])))/\CompW (Itl K a) (gName 0) tAlways te D W fin:=by
 have hlen:=hA.length
 refine Vz (xs:=xs) (fun i ys σ H5=>(∃ o',σ=o'::τ)/\Zw K H5 ((ts.take i).map f) ys/\Zv H H5/\H5 D=some (.lst ys)) ⟨⟨_,rfl⟩,rfl,(Zv.refl H).put hD,Zz⟩ ?_ ?_ ?_
 ·rintro i ys σ H5 hi ⟨_,_,s5,h5⟩
  exact ⟨s5.seq ha,h5⟩
 ·rintro i x ys σ H5 hx ⟨⟨o',rfl⟩,ar,s5,h5⟩
  obtain ⟨t,et,it⟩:=hA.got hx
  refine Vk (h t x H5 _ (List.mem_of_getElem? et) s5 (Zd.up s5.upT t x it) fun v' H6 s6 i6=>?_)
  refine ⟨s6 _ _ h5, ?_,⟨_,rfl⟩, ?_,(s5.trans s6).put hD,Zz⟩
  ·rw [<-ar.length,List.length_map,List.length_take]; exact Nat.lt_of_le_of_lt (Nat.le_trans (Nat.min_le_right _ _) hl) (by decide)
  ·rw [Zr et,List.map_append]
   have u6:Vc K H6 (Z3 H6 D (.lst (ys++[v']))):=Yv (s6 _ _ h5)
   exact Zw.append (Zw.up (s6.upT.trans u6) _ _ ar) (Zw.one (Zd.up u6 _ _ i6))
 ·rintro ys σ H5 ⟨_,ar,s5,h5⟩
  refine hf H5 ys s5 h5 ?_
  rw [<-hlen,List.take_length] at ar
  exact ar
theorem of_ints {K:W.Frag} {H:Hp}:∀ us:List Int,Zw K H (us.map Th.int) (us.map V.int)
 | []=>rfl
 | u::us=>⟨_,_,rfl,rfl,of_ints us⟩
structure Vg (ms:List (Str × Yr)) (fs:List Vm):Prop where
 len:fs.length<=5
 nums:(fs.map Vm.n).Sublist NUMS
 y:∀ f∈fs,(lkM ms f.y).isSome=true
 d:∀ f∈fs,∀ u,f.d=some u->∃ s,lkM ms f.y=some s/\Pv s u
def ShOk (ms:List (Str × Yr)):Yr->Prop
 | .whole lo hi=>-ALL<=lo/\lo<=hi/\hi<=ALL
 | .truth=>True
 | .text n=>0<=n/\n<=200
 | .row _ y n=>(lkM ms y).isSome=true/\0<=n/\n<=20
 | .rcd fs _=>Vg ms fs
 | .cho fs _ _=>Vg ms fs/\∀ f∈fs,f.d=none
structure MkOk (ms:List (Str × Yr)):Prop where
 nd:(ms.map (·.1)).Nodup
 len:ms.length<=6
 ok:∀ x s,lkM ms x=some s->ShOk ms s
structure M1 (cs:List Str) (i:Nat) (ms:List (Str × Yr)):Prop where
 sub:(ms.map (·.1)).Sublist ((cs.drop 1).take i)
 ok:∀ p∈ms,Pln cs p.2\/∃ fs us o,p.2=.cho fs us o/\PartsOk cs (fun _=>none) fs
structure M2 (cs:List Str) (m1:List (Str × Yr)) (i:Nat) (ms:List (Str × Yr)):Prop where
 ex:∃ rs:List (Str × Yr),ms=m1++rs/\∀ p∈rs,∃ fs us,p.2=.rcd fs us/\PartsOk cs (lkM m1) fs
 nd:(ms.map (·.1)).Nodup
 mem:∀ p∈ms,p.1∈cs
 all:∀ x∈cs.take i,(lkM ms x).isSome=true
theorem M2.fin {cs:List Str} {m1 ms:List (Str × Yr)} (h1:M1 cs (cs.drop 1).length m1) (h:M2 cs m1 cs.length ms) (hc:cs.length<=6):MkOk ms:=by
 have al:∀ x∈cs,(lkM ms x).isSome=true:=fun x mx=>h.all x (by rw [List.take_length]; exact mx)
 obtain ⟨rs,e,hr⟩:=h.ex
 have lk:∀ x s,lkM m1 x=some s->lkM ms x=some s:=fun x s es=>by rw [e,lkM_app,es]; rfl
 have pr:∀ {fs:List Vm} {pl:Str->Option Yr},PartsOk cs pl fs->(∀ x s,pl x=some s->lkM ms x=some s)->Vg ms fs:=fun {fs pl} p hp =>
  ⟨p.len,p.nums,fun f mf=>al _ (p.form f mf).y,fun f mf u eu=>let ⟨s,es,pv⟩:=(p.form f mf).d u eu; ⟨s,hp _ _ es,pv⟩⟩
 refine ⟨h.nd, ?_,fun x s es=>?_⟩
 ·have:(ms.map (·.1)).length<=cs.length:=List.Nodup.length_le_of_subset h.nd fun y my=>by
   obtain ⟨p,mp,rfl⟩:=List.mem_map.mp my
   exact h.mem p mp
  rw [List.length_map] at this
  omega
 ·have ms':=lkM_mem es
  rw [e] at ms'
  rcases List.mem_append.mp ms' with mm | mm
  ·rcases h1.ok _ mm with pl | ⟨fs,us,o,es',po⟩
   ·have pl:Pln cs s:=pl
    cases s with
    | whole lo hi=>exact pl
    | truth=>trivial
    | text n=>exact pl
    | row b y n=>exact ⟨al y pl.1,pl.2⟩
    | rcd _ _=>exact pl.elim
    | cho _ _ _=>exact pl.elim
   ·have es':s=.cho fs us o:=es'
    subst es'
    refine ⟨pr po fun x s z=>(nomatch z),fun f mf=>?_⟩
    cases ed:f.d with
    | none=>rfl
    | some u =>
     obtain ⟨s,z,_⟩:=(po.form f mf).d u ed
     cases z
  ·obtain ⟨fs,us,es',po⟩:=hr _ mm
   have es':s=.rcd fs us:=es'
   subst es'
   exact pr po lk
theorem M1.nil (cs:List Str):M1 cs 0 []:=⟨List.nil_sublist _,fun p m=>absurd m List.not_mem_nil⟩
theorem M1.skip {cs:List Str} {i:Nat} {ms:List (Str × Yr)} (h:M1 cs i ms) {nm:Str} (en:(cs.drop 1)[i]?=some nm):M1 cs (i+1) ms:=⟨h.sub.trans (by rw [Zr en]; exact List.sublist_append_left _ _),h.ok⟩
theorem M1.more {cs:List Str} {i:Nat} {ms:List (Str × Yr)} (h:M1 cs i ms) {nm:Str} (en:(cs.drop 1)[i]?=some nm) {s:Yr} (hs:Pln cs s\/∃ fs us o,s=.cho fs us o/\PartsOk cs (fun _=>none) fs):M1 cs (i+1) (ms++[(nm,s)]) :=
 ⟨by rw [Zr en,List.map_append]; exact h.sub.append (List.Sublist.refl _),fun p m=>(List.mem_append.mp m).elim (h.ok p) fun m=>by rw [List.mem_singleton.mp m]; exact hs⟩
theorem nd_at {cs:List Str} {i:Nat} {nm:Str} (nd:cs.Nodup) (en:cs[i]?=some nm):nm ∉ cs.take i:=fun z=>by
 have h:=nd.sublist (List.take_sublist (i+1) cs)
 rw [Zr en] at h
 exact (List.nodup_append.mp h).2.2 nm z nm List.mem_cons_self rfl
theorem M1.new {cs:List Str} {i:Nat} {ms:List (Str × Yr)} (h:M1 cs i ms) (nd:cs.Nodup) {nm:Str} (en:(cs.drop 1)[i]?=some nm):lkM ms nm=none :=
 lkM_none.mpr fun z=>nd_at (nd.sublist (List.drop_sublist 1 cs)) en (h.sub.subset z)
theorem M1.len {cs:List Str} {i:Nat} {ms:List (Str × Yr)} (h:M1 cs i ms):ms.length<=i:=by
 have:=h.sub.length_le
 rw [List.length_map,List.length_take] at this
 omega
theorem M2.start {cs:List Str} {i:Nat} {m1:List (Str × Yr)} (h:M1 cs i m1) (nd:cs.Nodup):M2 cs m1 0 m1:=by
 have sb:(m1.map (·.1)).Sublist cs:=h.sub.trans ((List.take_sublist _ _).trans (List.drop_sublist 1 cs))
 exact ⟨⟨[],(List.append_nil _).symm,fun p m=>absurd m List.not_mem_nil⟩,nd.sublist sb,fun p m=>sb.subset (List.mem_map_of_mem m),fun x m=>absurd m List.not_mem_nil⟩
theorem M2.skip {cs:List Str} {i:Nat} {m1 ms:List (Str × Yr)} (h:M2 cs m1 i ms) {nm:Str} (en:cs[i]?=some nm) {s:Yr} (hs:lkM ms nm=some s):M2 cs m1 (i+1) ms :=
 ⟨h.ex,h.nd,h.mem,fun x m=>by
  rw [Zr en] at m
  rcases List.mem_append.mp m with m | m
  ·exact h.all x m
  ·rw [List.mem_singleton.mp m,hs]; rfl⟩
theorem M2.more {cs:List Str} {i:Nat} {m1 ms:List (Str × Yr)} (h:M2 cs m1 i ms) {nm:Str} (en:cs[i]?=some nm) (hn:lkM ms nm=none) {fs:List Vm} (us:List Int) (hp:PartsOk cs (lkM m1) fs):M2 cs m1 (i+1) (ms++[(nm,.rcd fs us)]):=by
 obtain ⟨rs,e,hr⟩:=h.ex
 refine ⟨⟨rs++[(nm,.rcd fs us)],by rw [e,List.append_assoc],fun p m=>?_⟩, ?_,fun p m=>?_,fun x m=>?_⟩
 ·rcases List.mem_append.mp m with m | m
  ·exact hr p m
  ·rw [List.mem_singleton.mp m]; exact ⟨fs,us,rfl,hp⟩
 ·rw [List.map_append]
  refine List.nodup_append.mpr ⟨h.nd,List.nodup_cons.mpr ⟨List.not_mem_nil,List.nodup_nil⟩,fun a ma b mb z=>?_⟩
  rw [z,List.mem_singleton.mp mb] at ma
  exact lkM_none.mp hn ma
 ·rcases List.mem_append.mp m with m | m
  ·exact h.mem p m
  ·rw [List.mem_singleton.mp m]; exact List.mem_of_getElem? en
 ·rw [Zr en] at m
  rw [lkM_app]
  rcases List.mem_append.mp m with m | m
  ·obtain ⟨s,es⟩:=Option.isSome_iff_exists.mp (h.all x m)
   rw [es]; rfl
  ·rw [List.mem_singleton.mp m,hn]; simp [lkM]
theorem M2.len {cs:List Str} {i:Nat} {m1 ms:List (Str × Yr)} (h:M2 cs m1 i ms):ms.length<=cs.length:=by
 have:(ms.map (·.1)).length<=cs.length:=List.Nodup.length_le_of_subset h.nd fun y my=>by
  obtain ⟨p,mp,rfl⟩:=List.mem_map.mp my
  exact h.mem p mp
 rw [List.length_map] at this
 exact this
def IsMk (K:W.Frag) (H:Hp) (S:Addr) (ms:List (Str × Yr)):Prop:=∃ kvs,H S=some (.dK kvs)/\Dm K H kvs ms
def spMake (K:W.Frag):Sp:=fun vs H Q _=>∃ (l:Addr) (r:Nat),vs=[.ref l]/\Fd (r+400) H l/\∀ (e S:Addr) (v:V) (ms:List (Str × Yr)) (H':Hp),Z6 K H' e [v,.ref S]->IsMk K H' S ms->H S=none->MkOk ms->Y5 l r H H'->Q (.ref e) H'
def armTh:Th->Th
 | .tup (a::b::c::_)=>.tup [a,b,c]
 | t=>t
theorem arm_flds (fs:List Vm):(fs.map Vm.t).map armTh=fs.map Vm.a:=by
 rw [List.map_map]; exact List.map_congr_left fun f _=>rfl
theorem fld_nums (fs:List Vm):(fs.map Vm.t).map numTh=(fs.map Vm.n).map Th.int/\(fs.map Vm.a).map numTh=(fs.map Vm.n).map Th.int:=by
 constructor <;> rw [List.map_map,List.map_map] <;> exact List.map_congr_left fun f _=>rfl
section
variable {P:Program} {w:World} {K:W.Frag} {mg:Str->Option Value} {base:Heap} {f:Addr} {fd:FuncData}
theorem ok_make (F:Fun K "_law_make" "_law_make" s_law_make f fd) (m:Bn mg) (g_law_draw:Fn P w K mg base 1 "_law_draw" ["_law_feed_here","_law_many"] spDraw) (g_law_names:Fn P w K mg base 2 "_law_names" ["_law_feed_here","_law_many"] spNames)
  (g_law_plain_shape:Fn P w K mg base 2 "_law_plain_shape" ["_law_feed_here","_law_names_here"] (spPlainS K)) (g_law_parts:Fn P w K mg base 3 "_law_parts" ["_law_feed_here","_law_names_here","_law_shapes"] (spPartsD K))
  (g_law_struck:Fn P w K mg base 2 "_law_struck" ["_law_feed_here","_law_numbers_here"] (spStruckD K)):Y4 P w K mg base CX0 4 f fd ["_law_feed_here"] (spMake K):=by
 refine F.ok Yo (fun vs H Q E h=>?_) (fun cdv A outer s H vs Q E hr h=>?_)
 ·obtain ⟨l,r,rfl,_⟩:=h
  rfl
 obtain ⟨l,r,rfl,fe,q⟩:=h
 refine ⟨_,(@Zj _ _ _ _ _ (@Zo _ 1 _ _ _ _ _ Yo.nd rfl (by trivial) (@Zy _ _ _ _ _ _ _ _ _ _ g_law_names hr.m rfl (Zg (pv 0) (Zg (@Yx _ _ _ _ _ _ _ _ op_add Zq (@Zy _ _ _ _ _ _ _ _ _ _ g_law_draw hr.m rfl (Zg (pv 0) (Zg Zq Zx rfl) rfl) (by decide) rfl rfl)) Zx rfl) rfl) (by decide) rfl rfl) rfl (by trivial)) (@Zj _ _ _ _ _ (@Zo _ 2 _ _ _ _ _ Yo.nd rfl (by trivial) (@pe_dct0 _ _) rfl (by trivial)) (@Zj _ _ _ _ _ (@ps_for _ _ _ _ _ _ _ _ PassesOwn.never rfl (@Vj _ _ _ _ (@pe_slice _ _ _ _ _ _ _ _ _ _ sl_list (pv 1) (@po_some _ _ _ Zq) (@po_none _))) (@Zn _ 3 _ _ Yo.nd rfl (by trivial) (by trivial)) (@Zj _ _ _ _ _ (@Zo _ 4 _ _ _ _ _ Yo.nd rfl (by trivial) (@Zy _ _ _ _ _ _ _ _ _ _ g_law_draw hr.m rfl (Zg (pv 0) (Zg Zq Zx rfl) rfl) (by decide) rfl rfl) rfl (by trivial)) (@Zb _ _ _ (@Yz _ _ _ _ _ _ _ _ (@Zl _ _ _ _ _ _ _ _ op_lt (pv 4) Zq (Zh _)) (@Zb _ _ _ (@ps_dput _ _ _ _ _ _ _ _ _ (hu_of hr) (pv 2) (pv 3) (@Zy _ _ _ _ _ _ _ _ _ _ g_law_plain_shape hr.m rfl (Zg (pv 0) (Zg (pv 1) Zx rfl) rfl) (by decide) rfl rfl) rfl)) (@Zb _ _ _ (@Yz _ _ _ _ _ _ _ _ (@Zl _ _ _ _ _ _ _ _ Yf (pv 4) Zq (Zh _)) (@Zj _ _ _ _ _ (@Vy _ 5 N_law_make (Zf s_law_make) ["_law_part"] [none] _ _ _ _ _ _ _ _ _ _ _ _ _ Yo.nd rfl (by trivial) rfl (@V0 _ _ _ _ (@Zy _ _ _ _ _ _ _ _ _ _ g_law_parts hr.m rfl (Zg (pv 0) (Zg (pv 1) (Zg (@pe_dct0 _ _) Zx rfl) rfl) rfl) (by decide) rfl rfl)) ⟨rfl,rfl,by decide +kernel,by decide +kernel⟩ (fun _ _ _=>(@Zn _ 0 _ _ (show List.Nodup (["_law_part"]:List Str) from by decide +kernel) rfl (Or.inl rfl) (by trivial))) (fun _ _ _=>Yn) (fun _ _ _=>(@pe_slice _ _ _ _ _ _ _ _ _ _ sl_tupG (pv 0) (@po_none _) (@po_some _ _ _ Zq))) (by trivial) (by trivial) (by trivial)) (@Zj _ _ _ _ _ (@Zo _ 6 _ _ _ _ _ Yo.nd rfl (by trivial) (@Zy _ _ _ _ _ _ _ _ _ _ g_law_struck hr.m rfl (Zg (pv 0) (Zg (@Yw _ N_law_make (Zf s_law_make) ["_law_part"] [none] _ _ _ _ _ _ _ _ _ _ rfl (@Vj _ _ _ _ (pv 5)) ⟨rfl,rfl,by decide +kernel,by decide +kernel⟩ (fun _ _ _=>(@Zn _ 0 _ _ (show List.Nodup (["_law_part"]:List Str) from by decide +kernel) rfl (Or.inl rfl) (by trivial))) (fun _ _ _=>Yn) (fun _ _ _=>(@Zm _ _ _ _ _ _ _ Zt (pv 0) Zq (fun _ _=>rfl))) (by trivial)) Zx rfl) rfl) (by decide) rfl rfl) rfl (by trivial)) (@Zb _ _ _ (@ps_dput _ _ _ _ _ _ _ _ _ (hu_of hr) (pv 2) (pv 3) (@Zu _ _ _ _ _ (Zg Zc (Zg (@Ze _ _ _ _ _ _ _ _ _ Zi rfl m.tuple Ya (Zg (pv 5) Zx rfl) (by trivial) (by trivial) (by trivial) (by trivial)) (Zg (pv 6) (Zg (@pe_cmpR _ _ _ _ _ _ _ _ Yf (@Zy _ _ _ _ _ _ _ _ _ _ g_law_draw hr.m rfl (Zg (pv 0) (Zg Zq Zx rfl) rfl) (by decide) rfl rfl) Zq (Zh _)) Zx rfl) rfl) rfl) rfl)) rfl)))) Za))))) (by trivial)) (@Zj _ _ _ _ _ (@Zo _ 7 _ _ _ _ _ Yo.nd rfl (by trivial) (@Ze _ _ _ _ _ _ _ _ _ call_dictOf rfl m.dict b_dict (Zg (pv 2) Zx rfl) (by trivial) (by trivial) (by trivial) (by trivial)) rfl (by trivial)) (@Zj _ _ _ _ _ (@ps_for _ _ _ _ _ _ _ _ PassesOwn.never rfl (@Vj _ _ _ _ (pv 1)) (@Zn _ 3 _ _ Yo.nd rfl (by trivial) (by trivial)) (@Zb _ _ _ (@Yz _ _ _ _ _ _ _ _ (@pt_cmp _ _ _ _ _ _ (@pc_dnotin _ _ _ _ _ (hu_of hr) (pv 3) (pv 2)) (by trivial)) (@Zj _ _ _ _ _ (@Zo _ 8 _ _ _ _ _ Yo.nd rfl (by trivial) (@Zy _ _ _ _ _ _ _ _ _ _ g_law_parts hr.m rfl (Zg (pv 0) (Zg (pv 1) (Zg (pv 7) Zx rfl) rfl) rfl) (by decide) rfl rfl) rfl (by trivial)) (@Zb _ _ _ (@ps_dput _ _ _ _ _ _ _ _ _ (hu_of hr) (pv 2) (pv 3) (@Zu _ _ _ _ _ (Zg Zc (Zg (pv 8) (Zg (@Zy _ _ _ _ _ _ _ _ _ _ g_law_struck hr.m rfl (Zg (pv 0) (Zg (@Yw _ N_law_make (Zf s_law_make) ["_law_part"] [none] _ _ _ _ _ _ _ _ _ _ rfl (@V0 _ _ _ _ (pv 8)) ⟨rfl,rfl,by decide +kernel,by decide +kernel⟩ (fun _ _ _=>(@Zn _ 0 _ _ (show List.Nodup (["_law_part"]:List Str) from by decide +kernel) rfl (Or.inl rfl) (by trivial))) (fun _ _ _=>Yn) (fun _ _ _=>(@Zm _ _ _ _ _ _ _ Zt (pv 0) Zq (fun _ _=>rfl))) (by trivial)) Zx rfl) rfl) (by decide) rfl rfl) Zx rfl) rfl) rfl)) rfl))) Za)) (by trivial)) (@Zb _ _ _ (@Zp _ _ _ _ (@Zu _ _ _ _ _ (Zg (@Zm _ _ _ _ _ _ _ Z1 (pv 1) (@Yx _ _ _ _ _ _ _ _ op_mul (@Zy _ _ _ _ _ _ _ _ _ _ g_law_draw hr.m rfl (Zg (pv 0) (Zg (@Yy _ _ _ _ _ _ _ _ _ Yl rfl m.len b_len (Zg (pv 1) Zx rfl) (by decide) (by decide) rfl rfl) Zx rfl) rfl) (by decide) rfl rfl) (@Ze _ _ _ _ _ _ _ _ _ call_int1 rfl m.int b_int (Zg (@pe_cmpR _ _ _ _ _ _ _ _ Yf (@Zy _ _ _ _ _ _ _ _ _ _ g_law_draw hr.m rfl (Zg (pv 0) (Zg Zq Zx rfl) rfl) (by decide) rfl rfl) Zq (Zh _)) Zx rfl) (by trivial) (by trivial) (by trivial) (by trivial))) (fun _ _=>rfl)) (Zg (pv 2) Zx rfl) rfl))))))))), ?_⟩
 refine ⟨_,rfl,_,rfl,l,5,r+399,rfl,fe,by decide,by decide,fun x H1 x0 x1 t1=>?_⟩
 obtain ⟨xn,rfl⟩:∃ n:Nat,x=n:=⟨x.toNat,by omega⟩
 refine ⟨_,_,rfl,rfl,l,2+xn,r+397,by rw [Int.natCast_add]; rfl,t1.feed,by omega,fun C cs H2 hC nC okC t2=>?_⟩
 have t02:=t1.trans t2
 have nC0:H C=none:=t1.free nC
 have nCl:C≠l:=fe.ne nC0
 refine fun S hS=>?_
 have nS:H S=none:=t02.free hS
 have nSl:S≠l:=fe.ne nS
 have nCS:C≠S:=Z4 hC hS
 have k3:Mk K l C S H cs [] (r+397) (Z3 H2 S (.dK [])) :=
  ⟨t02.lay hS,by rw [Zk nCS]; exact hC,[],Zz,.nil⟩
 refine ⟨_,rfl,_,rfl,C,_,rfl,Z0.of k3.c,fun L hL=>?_⟩
 have cut:cutV (cs.map V.str) (some 1) none=(cs.drop 1).map V.str:=by
  rw [List.map_drop]
  unfold cutV
  have e2:HT.Vb (cs.map V.str).length (cs.map V.str).length none=(cs.map V.str).length:=rfl
  have e1:HT.Vb (cs.map V.str).length 0 (some 1)=min 1 (cs.map V.str).length:=by simp [HT.Vb]
  rw [e1,e2]
  generalize cs.map V.str=zs
  cases zs with
  | nil=>rfl
  | cons x r=>simp
 rw [cut]
 have c6:cs.length<=6:=by rw [okC.len]; omega
 have c2:2<=cs.length:=by rw [okC.len]; omega
 have k4:=k3.same (Zv.lay (o:=.lst ((cs.drop 1).map V.str)) hL)
 have nL0:H L=none:=k3.st.free hL
 have nLl:L≠l:=fe.ne nL0
 have nLS:L≠S:=fun z=>by rw [z,Zz] at hL; cases hL
 refine ⟨L,rfl,⟨_,Z0.of Zz⟩, ?_⟩
 refine for_list (K:=K) (xs:=(cs.drop 1).map V.str) (fun i σ H5=>(∃ o3 o4 o5 o6 o7 o8,σ=[some (.ref l),some (.ref C),some (.ref S),o3,o4,o5,o6,o7,o8])/\(∃ ms,M1 cs i ms/\Mk K l C S H cs ms (r+200+31 * (5 - i)) H5)/\H5 L=some (.lst ((cs.drop 1).map V.str)))
  ⟨⟨_,_,_,_,_,_,rfl⟩,⟨[],M1.nil cs,k4.mono (by omega)⟩,Zz⟩ ?_ ?_ ?_
 ·rintro i σ H5 hi ⟨_,_,h5⟩
  exact Z0.of h5
 ·rintro i x σ H5 hx ⟨⟨o3,o4,o5,o6,o7,o8,rfl⟩,⟨ms,m5,k5⟩,h5L⟩
  rw [List.getElem?_map] at hx
  obtain ⟨nm,en,rfl⟩:=Option.map_eq_some_iff.mp hx
  have hi:i<(cs.drop 1).length:=(List.getElem?_eq_some_iff.mp en).1
  rw [List.length_drop] at hi
  have nw:=m5.new okC.nd en
  have ln:ms.length<sizeLine:=Nat.lt_of_le_of_lt (show ms.length<=8 by have:=m5.len; omega) (by decide)
  refine ⟨_,rfl,l,6,r+200+31 * (5 - (i+1))+30,rfl,k5.st.feed.mono (by omega),by decide,by decide,fun y H6 y0 y1 t6=>?_⟩
  have k6:=k5.step t6 nCl nSl
  have h6L:=t6.keep _ _ nLl h5L
  refine ⟨_,rfl,_,_,rfl,rfl,_,rfl, ?_⟩
  refine V1 (fun ca=>?_) (fun ca=>?_)
  ·refine ⟨_,rfl,_,rfl,l,C,cs,r+200+31 * (5 - (i+1))+27,rfl,k6.c,by omega,by omega,k6.st.feed,fun v t H7 it pt t7=>?_⟩
   have k7:=k6.step t7 nCl nSl
   obtain ⟨Hb,pu,kb,sb,ub⟩:=k7.put fe nS nCS it ln nw
   refine ⟨_,rfl,_,rfl,S,Hb,rfl,pu,⟨_,_,_,_,_,_,rfl⟩,⟨_,m5.more en (.inl pt),kb.mono (by omega)⟩,(sb L nLS).trans (t7.keep _ _ nLl h6L)⟩
  ·refine ⟨_,rfl,rfl,_,rfl, ?_⟩
   refine V1 (fun cb=>?_) (fun cb=>?_)
   ·refine ⟨_,rfl,_,rfl,fun d0 hd0=>?_⟩
    have s7:=Zv.lay (o:=.dK []) hd0
    have k7:=k6.same s7
    refine ⟨l,C,d0,cs,fun _=>none,r+200+31 * (5 - (i+1))+5,rfl,k7.c,by omega,by omega,⟨[],Zz,fun _ _ e=>by cases e⟩,k7.st.feed,fun v fs H8 iv okp t8=>?_⟩
    have k8:=k7.step t8 nCl nSl
    have h8L:=t8.keep _ _ nLl (s7 _ _ h6L)
    obtain ⟨pp,ws,rfl,hpp,afs⟩:=iv
    have lf:fs.length<=1000000:=Nat.le_trans okp.len (by decide)
    refine ⟨pp,rfl,⟨_,hpp⟩,fun D fp sx hD=>?_⟩
    refine compT_tup (f:=armTh) hpp afs (by rw [List.length_map]; exact lf) hD (fun t v H5 Q5 mt s5 i5 q5=>?_) fun H9 w9 s9 h9 a9=>?_
    ·obtain ⟨fl,mfl,rfl⟩:=List.mem_map.mp mt
     obtain ⟨a,xs,rfl,ha,ax⟩:=i5
     obtain ⟨v1,v2,v3,v4,rfl,j1,j2,j3,j4⟩:=are4 ax
     refine ⟨_,rfl,_,rfl,a,_,rfl,ha,fun p' H' s' h'=>?_⟩
     exact q5 (.ref p') H' s' ⟨p',_,rfl,h',_,_,rfl,Zd.up s'.upT _ _ j1,_,_,rfl,Zd.up s'.upT _ _ j2,_,_,rfl,Zd.up s'.upT _ _ j3,rfl⟩
    rw [arm_flds] at a9
    have k9:=k8.same s9
    have h9L:=s9 _ _ h8L
    have hDf:H D=none:=k8.st.free hD
    have nDl:D≠l:=fe.ne hDf
    refine ⟨_,rfl,_,rfl,D,rfl,⟨_,Z0.of h9⟩,fun D2 fp2 sx2 hD2=>?_⟩
    refine compT_list (f:=numTh) (Z0.of h9) a9 (by rw [List.length_map]; exact lf) hD2 (fun t v H5 Q5 mt s5 i5 q5=>?_) fun H10 w10 s10 h10 a10=>?_
    ·obtain ⟨g,mg,rfl⟩:=List.mem_map.mp mt
     obtain ⟨a,xs,rfl,ha,y1,ys,rfl,iy,_⟩:=i5
     exact ⟨_,rfl,a,_,_,_,rfl,rfl,ha,at0,q5 y1 H5 (Zv.refl H5) iy⟩
    have k10:=k9.same s10
    have h10L:=s10 _ _ h9L
    rw [(fld_nums fs).2] at a10
    have ew:=are_ints a10
    subst ew
    refine ⟨l,D2,_,r+200+31 * (5 - (i+1))+1,rfl,h10,k10.st.feed.mono (by omega),fun qs us H11 hqs sbu nou t11=>?_⟩
    have k11:=k10.step t11 nCl nSl
    have h11L:=t11.keep _ _ nLl h10L
    have h11D:=t11.keep _ _ nDl (s10 _ _ h9)
    have u911:=s10.upT.trans (t11.upT (K:=K) k10.st.feed)
    refine ⟨_,rfl,D,_,rfl,.inl ⟨Z0.of h11D,fun e12 h12=>?_⟩⟩
    have s12:=Zv.lay (o:=.tup w9) h12
    have k12:=k11.same s12
    refine ⟨_,rfl,_,rfl,l,2,r+200+31 * (5 - (i+1)),rfl,k12.st.feed,by decide,by decide,fun z H13 z0 z1 t13=>⟨rfl,(sz 4),fun e14 h14=>?_⟩⟩
    have s14:=Zv.lay (o:=.tup [.str "choice",.ref e12,.ref qs,.bl (decide (V.int z=V.int 0))]) h14
    have k13:=k12.step t13 nCl nSl
    have k14:=k13.same s14
    have u12:Vc K _ _:=(t13.upT (K:=K) k12.st.feed).trans s14.upT
    have it:Zd K _ (Yr.t (.cho fs us (decide (V.int z=V.int 0)))) (.ref e14) :=
     ⟨e14,_,rfl,Z6.of Zz,_,_,rfl,rfl,_,_,rfl,⟨e12,w9,rfl,u12.tup _ _ (Z6.of Zz),Zw.up (u911.trans (s12.upT.trans u12)) _ _ a9⟩,_,_,rfl,⟨qs,_,rfl,(s12.upT.trans u12).tup _ _ hqs,of_ints us⟩,_,_,rfl,rfl,rfl⟩
    obtain ⟨Hb,pu,kb,sb,ub⟩:=k14.put fe nS nCS it ln nw
    refine ⟨_,rfl,_,rfl,S,Hb,rfl,pu,⟨_,_,_,_,_,_,rfl⟩,⟨_,m5.more en (.inr ⟨fs,us,_,rfl,okp⟩),kb⟩,(sb L nLS).trans (s14 _ _ (t13.keep _ _ nLl (s12 _ _ h11L)))⟩
   ·exact ⟨⟨_,_,_,_,_,_,rfl⟩,⟨_,m5.skip en,k6.mono (by omega)⟩,h6L⟩
 ·rintro σ H5 ⟨⟨o3,o4,o5,o6,o7,o8,rfl⟩,⟨m1,h1,k5⟩,h5L⟩
  have n5:((cs.drop 1).map V.str).length<=5:=by rw [List.length_map,List.length_drop]; omega
  have k5:=k5.mono (r':=r+200) (by omega)
  rw [List.length_map] at h1
  obtain ⟨kvs,eS,g5⟩:=k5.d
  refine ⟨_,rfl,S,kvs,rfl,.inl eS,fun B hB=>?_⟩
  have s6:=Zv.lay (o:=.dK kvs) hB
  have k6:=k5.same s6
  have nB:H B=none:=k5.st.free hB
  have nBl:B≠l:=fe.ne nB
  have nBS:B≠S:=fun z=>by rw [z,eS] at hB; cases hB
  have d6:DicP K (Z3 H5 B (.dK kvs)) cs (lkM m1) B:=⟨kvs,Zz,fun k v e=>by
   rcases g5.val k with ⟨_,z⟩ | ⟨s,v',es,ev,it⟩
   ·rw [e] at z; cases z
   ·rw [e] at ev; cases ev
    refine ⟨s,es,Zd.up s6.upT _ _ it, ?_⟩
    rcases h1.ok _ (lkM_mem es) with pl | ⟨fs,us,o,z,_⟩
    ·exact .inl pl
    ·exact .inr ⟨fs,us,o,z⟩⟩
  refine ⟨_,rfl,C,rfl,⟨_,Z0.of k6.c⟩, ?_⟩
  refine for_list (K:=K) (xs:=cs.map V.str) (fun i σ H5=>(∃ o3 o4 o5 o6 o8,σ=[some (.ref l),some (.ref C),some (.ref S),o3,o4,o5,o6,some (.ref B),o8])/\(∃ ms,M2 cs m1 i ms/\Mk K l C S H cs ms (r+2+29 * (6 - i)) H5)/\DicP K H5 cs (lkM m1) B)
   ⟨⟨_,_,_,_,_,rfl⟩,⟨m1,M2.start h1 okC.nd,k6.mono (by omega)⟩,d6⟩ ?_ ?_ ?_
  ·rintro i σ H5 hi ⟨_,⟨_,_,k⟩,_⟩
   exact Z0.of k.c
  ·rintro i x σ H7 hx ⟨⟨o3,o4,o5,o6,o8,rfl⟩,⟨ms,m7,k7⟩,d7⟩
   rw [List.getElem?_map] at hx
   obtain ⟨nm,en,rfl⟩:=Option.map_eq_some_iff.mp hx
   have hi:i<cs.length:=(List.getElem?_eq_some_iff.mp en).1
   obtain ⟨kvs7,e7,g7⟩:=k7.d
   have ln:ms.length<sizeLine:=Nat.lt_of_le_of_lt (show ms.length<=8 by have:=m7.len; omega) (by decide)
   refine ⟨_,rfl,_,rfl,S,_,rfl,DGet.k (k:=.inr nm) e7,_,rfl, ?_⟩
   refine V1 (fun ca=>?_) (fun ca=>?_)
   ·have nw:lkM ms nm=none:=by
     rcases g7.val nm with ⟨z,_⟩ | ⟨s,v,_,z,_⟩
     ·exact z
     ·rw [z] at ca; cases ca
    refine ⟨_,rfl,_,rfl,_,rfl,l,C,B,cs,lkM m1,r+2+29 * (6 - (i+1))+4,rfl,k7.c,by omega,by omega,d7,k7.st.feed.mono (by omega),fun v fs H8 iv okp t8=>?_⟩
    have k8:=k7.step t8 nCl nSl
    have d8:=d7.up (t8.upT (K:=K) k7.st.feed)
    obtain ⟨pp,ws,rfl,hpp,afs⟩:=iv
    have lf:fs.length<=1000000:=Nat.le_trans okp.len (by decide)
    refine ⟨_,rfl,_,rfl,_,rfl,pp,rfl,⟨_,hpp⟩,fun D fp sx hD=>?_⟩
    refine compT_tup (f:=numTh) hpp afs (by rw [List.length_map]; exact lf) hD (fun t v H5 Q5 mt s5 i5 q5=>?_) fun H9 w9 s9 h9 a9=>?_
    ·obtain ⟨fl,mfl,rfl⟩:=List.mem_map.mp mt
     obtain ⟨a,xs,rfl,ha,y1,ys,rfl,iy,_⟩:=i5
     exact ⟨_,rfl,a,_,_,_,rfl,rfl,ha,at0,q5 y1 H5 (Zv.refl H5) iy⟩
    have k9:=k8.same s9
    have d9:=d8.up s9.upT
    rw [(fld_nums fs).1] at a9
    have ew:=are_ints a9
    subst ew
    refine ⟨l,D,_,r+2+29 * (6 - (i+1)),rfl,h9,k9.st.feed,fun qs us H11 hqs sbu nou t11=>⟨(sz 3),fun e12 h12=>?_⟩⟩
    have k11:=k9.step t11 nCl nSl
    have s12:=Zv.lay (o:=.tup [.str "record",.ref pp,.ref qs]) h12
    have k12:=k11.same s12
    have u911:=t11.upT (K:=K) k9.st.feed
    have d12:=d9.up (u911.trans s12.upT)
    have u8:=s9.upT.trans (u911.trans s12.upT)
    have it:Zd K _ (Yr.t (.rcd fs us)) (.ref e12) :=
     ⟨e12,_,rfl,Z6.of Zz,_,_,rfl,rfl,_,_,rfl,⟨pp,ws,rfl,u8.tup _ _ hpp,Zw.up u8 _ _ afs⟩,_,_,rfl,⟨qs,_,rfl,s12.up _ _ hqs,of_ints us⟩,rfl⟩
    obtain ⟨Hb,pu,kb,sb,ub⟩:=k12.put fe nS nCS it ln nw
    refine ⟨_,rfl,_,rfl,S,Hb,rfl,pu,⟨_,_,_,_,_,rfl⟩,⟨_,m7.more en nw us okp,kb⟩, ?_⟩
    obtain ⟨kB,eB,gB⟩:=d12
    exact ⟨kB,(sb B nBS).trans eB,fun k v e=>let ⟨t,es,i,c⟩:=gB k v e; ⟨t,es,isTh_upO ub _ v i,c⟩⟩
   ·refine ⟨⟨_,_,_,_,_,rfl⟩, ?_,d7⟩
    rcases g7.val nm with ⟨_,z⟩ | ⟨s,v,es,_,_⟩
    ·rw [z] at ca; exact absurd rfl ca
    ·exact ⟨_,m7.skip en es,k7.mono (by omega)⟩
  ·rintro σ H7 ⟨⟨o3,o4,o5,o6,o8,rfl⟩,⟨ms,m7,k7⟩,d7⟩
   have n6:(cs.map V.str).length<=6:=by rw [List.length_map]; exact c6
   have k7:=k7.mono (r':=r+2) (by omega)
   rw [List.length_map] at m7
   refine ⟨_,rfl,_,rfl,_,rfl,C,_,rfl,.inl (Z0.of k7.c),l,_,r+1,rfl,k7.st.feed, ?_, ?_,fun y H8 y0 y1 t8=>?_⟩
   ·rw [List.length_map]; omega
   ·rw [List.length_map]; omega
   have k8:=k7.step t8 nCl nSl
   refine ⟨_,rfl,l,3,r,rfl,k8.st.feed,by decide,by decide,fun z H9 z0 z1 t9=>⟨rfl,.inr ⟨_,rfl, ?_⟩⟩⟩
   have k9:=k8.step t9 nCl nSl
   refine ⟨_,_,rfl,rfl,.inr ⟨by split <;> decide,by split <;> decide⟩, ?_⟩
   obtain ⟨nm,mn,enm⟩:=pickS cs (r:=y * (if decide (V.int z=V.int 0)=true then (1:Int) else 0)) (by split <;> omega) (by rw [List.length_map] at y1; split <;> omega)
   refine ⟨C,_,_,_,rfl,rfl,Z0.of k9.c,enm,_,rfl,(sz 2),fun e he=>?_⟩
   have kE:=k9.same (Zv.lay (o:=.tup [.str nm,.ref S]) he)
   exact q e S (.str nm) ms _ (Z6.of Zz) kE.d nS (m7.fin h1 c6) kE.st
end
mutual
def thD:Th->D
 | .non=>.non
 | .bl b=>.bl b
 | .int i=>.int i
 | .str x=>.str x
 | .tup ts=>.tup (Vv ts)
 | .opq=>.non
def Vv:List Th->List D
 | []=>[]
 | t::ts=>thD t::Vv ts
end
theorem thDs_map:∀ ts:List Th,Vv ts=ts.map thD
 | []=>rfl
 | t::ts=>by rw [Vv,thDs_map ts,List.map_cons]
mutual
theorem Vn {K:W.Frag} {H:Hp}:∀ (t:Th) (v:V),nqT t->Zd K H t v->Vu K H (thD t) v
 | .non,_,_,h=>h
 | .bl _,_,_,h=>h
 | .int _,_,_,h=>h
 | .str _,_,_,h=>h
 | .tup ts,v,n,h=>by
  obtain ⟨a,vs,e,q,r⟩:=h
  exact ⟨a,vs,e,q,areTh_D ts vs n r⟩
 | .opq,v,n,h=>n.elim
theorem areTh_D {K:W.Frag} {H:Hp}:∀ (ts:List Th) (vs:List V),nqTs ts->Zw K H ts vs->Yd K H (Vv ts) vs
 | [],_,_,h=>h
 | t::ts,vs,n,h=>by
  obtain ⟨v,r,e,q,w⟩:=h
  exact ⟨v,r,e,Vn t v n.1 q,areTh_D ts r n.2 w⟩
end
theorem lenS (s:String):(Str.ofString s).length=s.toList.length:=by
 rw [Str.ofString_eq_toList]; simp [Str.length]
theorem int_short {i:Int} (h0:-ALL<=i) (h1:i<=ALL):(Str.ofString (toString i)).length<=25/\i.natAbs.log2<1920:=by
 have hb:i.natAbs<10 ^ 20:=by
  have:(ALL:Int)<10 ^ 20:=by decide
  omega
 refine ⟨?_, ?_⟩
 ·rw [lenS]
  have hd:(Nat.toDigits 10 i.natAbs).length<=20:=(Nat.length_toDigits_le_iff (by decide) (by decide)).mpr hb
  cases i with
  | ofNat n =>
   show (Nat.repr n).toList.length<=25
   rw [Nat.toList_repr]
   exact Nat.le_trans hd (by decide)
  | negSucc n =>
   show (("-" ++ Nat.repr (n+1):String)).toList.length<=25
   rw [String.toList_append,Nat.toList_repr,List.length_append]
   have:(Nat.toDigits 10 (n+1)).length<=20:=hd
   have e1:("-" : String).toList.length=1:=rfl
   omega
 ·by_cases z:i.natAbs=0
  ·rw [z]; decide
  ·exact (Nat.log2_lt z).mpr (Nat.lt_trans hb (by decide +kernel))
theorem int_inj {i j:Int} (h:Str.ofString (toString i)=Str.ofString (toString j)):i=j:=by
 rw [Str.ofString_eq_toList,Str.ofString_eq_toList] at h
 injection h with h
 have h:=congrArg Array.toList h
 simp only [List.toList_toArray] at h
 have inj:∀ {a b:List Char},a.map Char.toNat=b.map Char.toNat->a=b:=fun {a b} e=>(List.map_inj_right fun x y z=>Char.toNat_inj.mp z).mp e
 have h:=inj h
 have dg:∀ {a b:Nat},Nat.toDigits 10 a=Nat.toDigits 10 b->a=b:=fun {a b} e=>by
  rw [<-Nat.ofDigitChars_ten_toDigits (n:=a),e,Nat.ofDigitChars_ten_toDigits]
 have nm:∀ {a b:Nat},¬ (Nat.toDigits 10 a='-'::Nat.toDigits 10 b):=fun {a b} e=>by
  have:('-':Char).isDigit=true:=Nat.isDigit_of_mem_toDigits (b:=10) (n:=a) (by decide) (by decide) (by rw [e]; exact List.mem_cons_self)
  exact absurd this (by decide)
 have pos:∀ n:Nat,(toString (Int.ofNat n)).toList=Nat.toDigits 10 n:=fun n=>Nat.toList_repr
 have neg:∀ n:Nat,(toString (Int.negSucc n)).toList='-'::Nat.toDigits 10 (n+1):=fun n=>by
  show (("-" ++ Nat.repr (n+1):String)).toList=_
  rw [String.toList_append,Nat.toList_repr]; rfl
 cases i with
 | ofNat n =>
  cases j with
  | ofNat m=>rw [pos,pos] at h; rw [dg h]
  | negSucc m=>rw [pos,neg] at h; exact (nm h).elim
 | negSucc n =>
  cases j with
  | ofNat m=>rw [pos,neg] at h; exact (nm h.symm).elim
  | negSucc m =>
   rw [neg,neg] at h
   injection h with _ h
   have:=dg h
   rw [Nat.succ.inj this]
theorem quote_pl {x:Str} (h:TxOk x):reprQuote x=39:=by
 unfold reprQuote
 have:x.cps.contains 39=false:=by
  rw [Bool.eq_false_iff]
  intro z
  have:(39:Nat)∈x.cps.toList:=by simpa using z
  exact (h.1 39 this).2.2.1 rfl
 rw [this]; rfl
theorem char_pl:∀ c,c<127->plC c->Builtin.Str.reprChar 39 c=[c]:=by decide +kernel
theorem repr_pl {x:Str} (h:TxOk x):(reprText x).cps.toList=39::x.cps.toList++[39]:=by
 unfold reprText
 rw [quote_pl h]
 have:∀ (l:List Nat) (a:Array Nat),(∀ c∈l,plC c)->(l.foldl (fun out c=>out++(Builtin.Str.reprChar 39 c).toArray) a).toList=a.toList++l:=fun l=>by
  induction l with
  | nil=>intro a _; simp
  | cons c l ih =>
   intro a hl
   have pc:=hl c List.mem_cons_self
   rw [List.foldl_cons,ih _ fun z m=>hl z (List.mem_cons_of_mem _ m),char_pl c pc.2.1 pc]
   simp
 rw [Array.toList_push, <-Array.foldl_toList,this _ _ h.1]
 simp
theorem str_inj {x y:Str} (hx:TxOk x) (hy:TxOk y) (h:reprText x=reprText y):x=y:=by
 have h:=congrArg (fun z:Str=>z.cps.toList) h
 simp only [repr_pl hx,repr_pl hy] at h
 have h:=List.append_cancel_right h
 injection h with _ h
 obtain ⟨a⟩:=x
 obtain ⟨b⟩:=y
 exact congrArg Str.mk (Array.toList_inj.mp h)
theorem one_inj {a b:Str} (h:tupleText [a]=tupleText [b]):a=b:=by
 have h:(Str.ofString "(" ++ a)++Str.ofString ",)" = (Str.ofString "(" ++ b)++Str.ofString ",)" := h
 obtain ⟨a⟩:=a
 obtain ⟨b⟩:=b
 have h:=congrArg (fun z:Str=>z.cps.toList) h
 have ap:∀ p q:Str,(p++q).cps.toList=p.cps.toList++q.cps.toList:=fun p q=>by
  show (p.cps++q.cps).toList=_
  exact Array.toList_append
 simp only [ap] at h
 have h:=List.append_cancel_left (List.append_cancel_right h)
 exact congrArg Str.mk (Array.toList_inj.mp h)
structure Gd (c d:Nat) (t:Th):Prop where
 nq:nqT t
 rp:rpOk (thD t)
 len:(rpD (thD t)).length<=c
 lv:lvD (thD t)<=d
theorem Gd.mono {c d c' d':Nat} {t:Th} (h:Gd c d t) (hc:c<=c') (hd:d<=d'):Gd c' d' t:=⟨h.nq,h.rp,Nat.le_trans h.len hc,Nat.le_trans h.lv hd⟩
theorem gd_int {i:Int} (h0:-ALL<=i) (h1:i<=ALL):Gd 25 0 (.int i):=⟨trivial,(int_short h0 h1).2,(int_short h0 h1).1,Nat.le_refl _⟩
theorem gd_bl (b:Bool):Gd 5 0 (.bl b):=⟨trivial,trivial,by cases b <;> decide +kernel,Nat.le_refl _⟩
theorem gd_str {x:Str} {c:Nat} (h:∀ z∈x.cps.toList,z<127) (hl:10 * x.length+2<=c) (hc:c<=2002):Gd c 0 (.str x):=by
 have:=StrLaws.reprText_len x fun z m=>Nat.lt_trans (h z m) (by decide)
 refine ⟨trivial, ?_,Nat.le_trans this hl,Nat.le_refl _⟩
 show (reprText x).length<=sizeLine
 exact Nat.le_trans (Nat.le_trans this (Nat.le_trans hl hc)) (by decide)
theorem gd_tx {x:Str} (h:TxOk x):Gd 2002 0 (.str x):=gd_str (fun z m=>(h.1 z m).2.1) (by have:=h.2; omega) (Nat.le_refl _)
theorem rpDs_map:∀ ds:List D,rpDs ds=ds.map rpD
 | []=>rfl
 | d::ds=>by rw [rpDs,rpDs_map ds,List.map_cons]
theorem rpOks_all:∀ {ds:List D},(∀ d∈ds,rpOk d)->rpOks ds
 | [],_=>trivial
 | d::ds,h=>⟨h d List.mem_cons_self,rpOks_all fun x m=>h x (List.mem_cons_of_mem _ m)⟩
theorem lvDs_all {n:Nat}:∀ {ds:List D},(∀ d∈ds,lvD d<=n)->lvDs ds<=n
 | [],_=>Nat.zero_le _
 | d::ds,h=>Nat.max_le.mpr ⟨h d List.mem_cons_self,lvDs_all fun x m=>h x (List.mem_cons_of_mem _ m)⟩
theorem gd_sum {c d k:Nat} {ts:List Th} (h:∀ t∈ts,∃ c',Gd c' d t) (hs:(ts.map fun t=>(rpD (thD t)).length).sum+2 * ts.length+3<=c):Gd c (d+1) (.tup ts):=by
 refine ⟨nqTs_all fun t m=>(h t m).elim fun _ g=>g.nq, ?_, ?_, ?_⟩
 ·show rpOks (Vv ts)
  rw [thDs_map]
  refine rpOks_all fun x m=>?_
  obtain ⟨t,mt,rfl⟩:=List.mem_map.mp m
  exact (h t mt).elim fun _ g=>g.rp
 ·show (tupleText (rpDs (Vv ts))).length<=c
  have:=tupleText_len_le (rpDs (Vv ts))
  rw [rpDs_map,thDs_map,List.map_map,List.map_map,List.length_map] at this
  rw [rpDs_map,thDs_map,List.map_map]
  exact Nat.le_trans this hs
 ·show lvDs (Vv ts)+1<=d+1
  rw [thDs_map]
  refine Nat.succ_le_succ (lvDs_all fun x m=>?_)
  obtain ⟨t,mt,rfl⟩:=List.mem_map.mp m
  exact (h t mt).elim fun _ g=>g.lv
theorem gd_tup {c d n:Nat} {ts:List Th} (h:∀ t∈ts,Gd c d t) (hn:ts.length<=n):Gd (n * (c+2)+3) (d+1) (.tup ts):=by
 refine gd_sum (k:=0) (fun t m=>⟨c,h t m⟩) ?_
 have:∀ l:List Th,(∀ t∈l,Gd c d t)->(l.map fun t=>(rpD (thD t)).length).sum+2 * l.length<=l.length * (c+2):=fun l=>by
  induction l with
  | nil=>intro _; simp
  | cons t l ih =>
   intro hl
   have i:=ih fun x m=>hl x (List.mem_cons_of_mem _ m)
   have g:=(hl t List.mem_cons_self).len
   simp only [List.map_cons,List.sum_cons,List.length_cons,Nat.add_mul,Nat.one_mul]
   omega
 have:=this ts h
 have m:=Nat.mul_le_mul_right (c+2) hn
 omega
theorem gd2 {c c' d:Nat} {a b:Th} (ha:Gd c d a) (hb:Gd c' d b):Gd (c+c'+7) (d+1) (.tup [a,b]):=by
 refine gd_sum (k:=0) (fun t m=>?_) ?_
 ·simp only [List.mem_cons,List.not_mem_nil,or_false] at m
  rcases m with rfl | rfl
  ·exact ⟨_,ha⟩
  ·exact ⟨_,hb⟩
 ·have:=ha.len; have:=hb.len
  simp only [List.map_cons,List.map_nil,List.sum_cons,List.sum_nil,List.length_cons,List.length_nil]
  omega
theorem gd3 {c c' c'' d:Nat} {a b e:Th} (ha:Gd c d a) (hb:Gd c' d b) (he:Gd c'' d e):Gd (c+c'+c''+9) (d+1) (.tup [a,b,e]):=by
 refine gd_sum (k:=0) (fun t m=>?_) ?_
 ·simp only [List.mem_cons,List.not_mem_nil,or_false] at m
  rcases m with rfl | rfl | rfl
  ·exact ⟨_,ha⟩
  ·exact ⟨_,hb⟩
  ·exact ⟨_,he⟩
 ·have:=ha.len; have:=hb.len; have:=he.len
  simp only [List.map_cons,List.map_nil,List.sum_cons,List.sum_nil,List.length_cons,List.length_nil]
  omega
theorem Gd.shown {c d:Nat} {ts:List Th} (h:Gd c d (.tup ts)) (hc:c<=sizeLine) (hd:d<=100):rpOks (Vv ts)/\lvDs (Vv ts)<=100/\(rpD (.tup (Vv ts))).length<=sizeLine :=
 ⟨h.rp,by have:lvDs (Vv ts)+1<=d:=h.lv; omega,Nat.le_trans h.len hc⟩
def prT (p:Int × Th):Th:=.tup [.int p.1,p.2]
structure Ent where
 f:Vm
 u:Th
 w:Th
structure Kuw where
 k:Str
 u:Th
 w:Th
def lfo (e:Ent):Bool:=match e.f.d with
 | none=>false
 | some d=>eqD (thD d) (thD e.u)
def kept (l:List Ent):List (Int × Th):=(l.filter fun e=>!lfo e).map fun e=>(e.f.n,e.w)
structure OsOk (own:Bool) (fs:List Vm) (os:List (Int × Th)):Prop where
 own:own=true->os=[]
 nd:(os.map (·.1)).Nodup
 len:os.length<=6
 ok:∀ o∈os,o.1 ∉ fs.map Vm.n/\0<=o.1/\o.1<=1000/\Gd 4000 8 o.2
def VW (W:Str->Th->Th->Prop) (own:Bool):Yr->Th->Th->Prop
 | .whole lo hi,u,w=>Pv (.whole lo hi) u/\w=.tup [.str "whole",u]
 | .truth,u,w=>∃ b:Bool,u=.bl b/\w=.tup [.str "whole",.int (if b=true then 1 else 0)]
 | .text n,u,w=>Pv (.text n) u/\w=.tup [.str "text",u]
 | .row true y _,u,w=>∃ l:List Kuw,l.length<=3/\(∀ e∈l,e.k∈V3/\W y e.u e.w)/\u=.tup (l.map Kuw.u)/\w=.tup [.str "row",.tup (l.map Kuw.w)]
 | .row false y _,u,w=>∃ l:List Kuw,l.length<=3/\(∀ e∈l,e.k∈V3/\W y e.u e.w)/\u=.tup (l.map fun e=>.tup [.str e.k,e.u])/\w=.tup [.str "map",.tup (l.map fun e=>.tup [.str e.k,e.w])]
 | .rcd fs _,u,w=>∃ (l:List Ent) (os ps:List (Int × Th)),l.map Ent.f=fs/\(∀ e∈l,W e.f.y e.u e.w)/\OsOk own fs os/\u=.tup [.tup (l.map Ent.u),.tup (os.map prT)]/\ps.Perm (kept l++os)/\ps.Pairwise (fun a b=>a.1<=b.1)/\w=.tup [.str "rec",.tup (ps.map prT)]
 | .cho fs _ _,u,w=>(∃ f∈fs,∃ u' w',W f.y u' w'/\u=.tup [.str "arm",.int f.n,u']/\w=.tup [.str "arm",.int f.n,w']) \/
   (own=false/\∃ n it,n ∉ fs.map Vm.n/\0<=n/\n<=1000/\Gd 4000 8 it/\u=.tup [.str "other",.int n,it]/\w=.tup [.str "arm",.int n,it])
def Wr (own:Bool) (ms:List (Str × Yr)):Nat->Str->Th->Th->Prop
 | 0,x,u,w=>∃ s,lkM ms x=some s/\VW (fun _ _ _=>False) own s u w
 | n+1,x,u,w=>∃ s,lkM ms x=some s/\VW (Wr own ms n) own s u w
def Wr' (own:Bool) (ms:List (Str × Yr)):Nat->Str->Th->Th->Prop
 | 0=>fun _ _ _=>False
 | n+1=>Wr own ms n
theorem Wr.out {own:Bool} {ms:List (Str × Yr)}:∀ {n:Nat} {x:Str} {u w:Th},Wr own ms n x u w->∃ s,lkM ms x=some s/\VW (Wr' own ms n) own s u w
 | 0,_,_,_,h=>h
 | _+1,_,_,_,h=>h
theorem Wr.of {own:Bool} {ms:List (Str × Yr)}:∀ {n:Nat} {x:Str} {u w:Th} {s:Yr},lkM ms x=some s->VW (Wr' own ms n) own s u w->Wr own ms n x u w
 | 0,_,_,_,_,e,h=>⟨_,e,h⟩
 | _+1,_,_,_,_,e,h=>⟨_,e,h⟩
def CW:Nat->Nat
 | 0=>0
 | n+1=>5 * CW n+30000
theorem gd_wd {x:Str} (h:(x.cps.toList.all fun z=>decide (z<127))=true) (hl:x.length<=8):Gd 82 0 (.str x):=gd_str (fun z m=>of_decide_eq_true (List.all_eq_true.mp h z m)) (by omega) (by decide)
theorem words_gd:∀ x∈V3,Gd 82 0 (.str x):=fun x m=>by
 have h:∀ x∈V3,(x.cps.toList.all fun z=>decide (z<127))=true/\x.length<=8:=by decide +kernel
 exact gd_wd (h x m).1 (h x m).2
theorem nums_in:∀ n∈NUMS,0<=n/\n<=1000:=by decide
theorem small_gd {n : Int} (h0 : 0 ≤ n) (h1 : n ≤ 1000) : Gd 25 0 (.int n) := gd_int (by have : (0 : Int) ≤ ALL := by decide
                                                                                         omega) (by have : (1000 : Int) ≤ ALL := by decide
                                                                                                    omega)
theorem fld_in {ms:List (Str × Yr)} {fs:List Vm} (h:Vg ms fs) {f:Vm} (m:f∈fs):0<=f.n/\f.n<=1000:=nums_in _ (h.nums.subset (List.mem_map_of_mem m))
theorem Vl {d:Nat} {x:Str} (h:(x.cps.toList.all fun z=>decide (z<127))=true) (hl:x.length<=8):Gd 82 d (.str x):=(gd_wd h hl).mono (Nat.le_refl _) (Nat.zero_le _)
theorem sum_le {c:Nat}:∀ l:List (Int × Th),(∀ p∈l,(rpD (thD (prT p))).length<=c)->(l.map fun p=>(rpD (thD (prT p))).length).sum<=l.length * c
 | [],_=>Nat.zero_le _
 | p::l,h=>by
  have i:=sum_le l fun q m=>h q (List.mem_cons_of_mem _ m)
  have g:=h p List.mem_cons_self
  simp only [List.map_cons,List.sum_cons,List.length_cons,Nat.add_mul,Nat.one_mul]
  omega
theorem kept_len (l:List Ent):(kept l).length<=l.length:=by
 unfold kept
 rw [List.length_map]
 exact List.length_filter_le _ _
theorem VW.gd {own:Bool} {ms:List (Str × Yr)} {W:Str->Th->Th->Prop} {c n:Nat} {s:Yr} {u w:Th} (ok:ShOk ms s) (ih:∀ x u w,W x u w->Gd c (9+3 * n) u/\Gd c (9+3 * n) w) (h:VW W own s u w):Gd (5 * c+30000) (12+3 * n) u/\Gd (5 * c+30000) (12+3 * n) w:=by
 have base:∀ {c' d:Nat} {t:Th},Gd c' d t->c'<=30000->d<=12->Gd (5 * c+30000) (12+3 * n) t:=fun g hc hd=>g.mono (by omega) (by omega)
 cases s with
 | whole lo hi =>
  obtain ⟨p,rfl⟩:=h
  cases u with
  | int i=>exact ⟨base (gd_int p.1 p.2) (by decide) (by decide),base (gd2 (Vl (by decide +kernel) (by decide +kernel)) (gd_int p.1 p.2)) (by decide) (by decide)⟩
  | _=>exact p.elim
 | truth =>
  obtain ⟨b,rfl,rfl⟩:=h
  refine ⟨base (gd_bl b) (by decide) (by decide),base (gd2 (Vl (by decide +kernel) (by decide +kernel)) (small_gd ?_ ?_)) (by decide) (by decide)⟩ <;> split <;> decide
 | text k =>
  obtain ⟨p,rfl⟩:=h
  cases u with
  | str z=>exact ⟨base (gd_tx p) (by decide) (by decide),base (gd2 (Vl (by decide +kernel) (by decide +kernel)) (gd_tx p)) (by decide) (by decide)⟩
  | _=>exact p.elim
 | row b y k =>
  cases b with
  | true =>
   obtain ⟨l,l3,hl,rfl,rfl⟩:=h
   have gu:Gd (3 * (c+2)+3) (9+3 * n+1) (.tup (l.map Kuw.u)):=gd_tup (fun t m=>by
    obtain ⟨e,me,rfl⟩:=List.mem_map.mp m
    exact (ih _ _ _ (hl e me).2).1) (by rw [List.length_map]; exact l3)
   have gw:Gd (3 * (c+2)+3) (9+3 * n+1) (.tup (l.map Kuw.w)):=gd_tup (fun t m=>by
    obtain ⟨e,me,rfl⟩:=List.mem_map.mp m
    exact (ih _ _ _ (hl e me).2).2) (by rw [List.length_map]; exact l3)
   exact ⟨gu.mono (by omega) (by omega),(gd2 (Vl (by decide +kernel) (by decide +kernel)) gw).mono (by omega) (by omega)⟩
  | false =>
   obtain ⟨l,l3,hl,rfl,rfl⟩:=h
   have gk:∀ e∈l,Gd 82 (9+3 * n) (.str e.k):=fun e me=>(words_gd _ (hl e me).1).mono (Nat.le_refl _) (Nat.zero_le _)
   have gu:Gd (3 * (82+c+7+2)+3) (9+3 * n+1+1) (.tup (l.map fun e=>.tup [.str e.k,e.u])):=gd_tup (fun t m=>by
    obtain ⟨e,me,rfl⟩:=List.mem_map.mp m
    exact gd2 (gk e me) (ih _ _ _ (hl e me).2).1) (by rw [List.length_map]; exact l3)
   have gw:Gd (3 * (82+c+7+2)+3) (9+3 * n+1+1) (.tup (l.map fun e=>.tup [.str e.k,e.w])):=gd_tup (fun t m=>by
    obtain ⟨e,me,rfl⟩:=List.mem_map.mp m
    exact gd2 (gk e me) (ih _ _ _ (hl e me).2).2) (by rw [List.length_map]; exact l3)
   exact ⟨gu.mono (by omega) (by omega),(gd2 (Vl (by decide +kernel) (by decide +kernel)) gw).mono (by omega) (by omega)⟩
 | rcd fs us =>
  obtain ⟨l,os,ps,rfl,hl,ho,rfl,hp,sp,rfl⟩:=h
  have ok:Vg ms (l.map Ent.f):=ok
  have l5:l.length<=5:=by have:=ok.len; rw [List.length_map] at this; exact this
  have go:∀ p∈os,Gd (25+4000+7) (8+1) (prT p):=fun p m=>gd2 ((small_gd (ho.ok p m).2.1 (ho.ok p m).2.2.1).mono (Nat.le_refl _) (Nat.zero_le _)) (ho.ok p m).2.2.2
  have gk:∀ p∈kept l,Gd (25+c+7) (9+3 * n+1) (prT p):=fun p m=>by
   obtain ⟨e,me,rfl⟩:=List.mem_map.mp m
   have me:=(List.mem_filter.mp me).1
   have b:=fld_in ok (List.mem_map_of_mem me)
   exact gd2 ((small_gd b.1 b.2).mono (Nat.le_refl _) (Nat.zero_le _)) (ih _ _ _ (hl e me)).2
  constructor
  ·have g1:Gd (5 * (c+2)+3) (9+3 * n+1) (.tup (l.map Ent.u)):=gd_tup (fun t m=>by
    obtain ⟨e,me,rfl⟩:=List.mem_map.mp m
    exact (ih _ _ _ (hl e me)).1) (by rw [List.length_map]; exact l5)
   have g2:Gd (6 * (25+4000+7+2)+3) (8+1+1) (.tup (os.map prT)):=gd_tup (fun t m=>by
    obtain ⟨p,mp,rfl⟩:=List.mem_map.mp m
    exact go p mp) (by rw [List.length_map]; exact ho.len)
   exact (gd2 g1 (g2.mono (Nat.le_refl _) (by omega:8+1+1<=9+3 * n+1))).mono (by omega) (by omega)
  ·have g:Gd (5 * c+24500) (10+3 * n+1) (.tup (ps.map prT)):=by
    refine gd_sum (k:=0) (fun t m=>?_) ?_
    ·obtain ⟨p,mp,rfl⟩:=List.mem_map.mp m
     rcases List.mem_append.mp (hp.mem_iff.mp mp) with mp | mp
     ·exact ⟨_,(gk p mp).mono (Nat.le_refl _) (by omega)⟩
     ·exact ⟨_,(go p mp).mono (Nat.le_refl _) (by omega)⟩
    ·have e1:((ps.map prT).map fun t=>(rpD (thD t)).length).sum=((kept l++os).map fun p=>(rpD (thD (prT p))).length).sum:=by
      rw [List.map_map]
      exact (hp.map _).sum_nat
     have e2:=sum_le (c:=25+c+7) (kept l) fun p m=>(gk p m).len
     have e3:=sum_le (c:=4032) os fun p m=>(go p m).len
     have e4:=kept_len l
     have e5:(ps.map prT).length=(kept l).length+os.length:=by rw [List.length_map,hp.length_eq,List.length_append]
     have e6:=ho.len
     have e7:(kept l).length * (25+c+7)<=5 * (25+c+7):=Nat.mul_le_mul_right _ (by omega)
     rw [e1,e5,List.map_append,List.sum_append]
     omega
   exact (gd2 (Vl (by decide +kernel) (by decide +kernel)) g).mono (by omega) (by omega)
 | cho fs us o =>
  have ok:Vg ms fs/\_:=ok
  rcases h with ⟨f,mf,u',w',hw,rfl,rfl⟩ | ⟨_,k,it,nk,k0,k1,gi,rfl,rfl⟩
  ·have b:=fld_in ok.1 mf
   have g:=ih _ _ _ hw
   have gi:Gd 25 (9+3 * n) (.int f.n):=(small_gd b.1 b.2).mono (Nat.le_refl _) (Nat.zero_le _)
   exact ⟨(gd3 (Vl (by decide +kernel) (by decide +kernel)) gi g.1).mono (by omega) (by omega),(gd3 (Vl (by decide +kernel) (by decide +kernel)) gi g.2).mono (by omega) (by omega)⟩
  ·have gk:Gd 25 8 (.int k):=(small_gd k0 k1).mono (Nat.le_refl _) (Nat.zero_le _)
   exact ⟨base (gd3 (Vl (by decide +kernel) (by decide +kernel)) gk gi) (by decide) (by decide),base (gd3 (Vl (by decide +kernel) (by decide +kernel)) gk gi) (by decide) (by decide)⟩
theorem Wr.gd {own:Bool} {ms:List (Str × Yr)} (mk:MkOk ms):∀ {n:Nat} {x:Str} {u w:Th},Wr own ms n x u w->Gd (CW (n+1)) (12+3 * n) u/\Gd (CW (n+1)) (12+3 * n) w
 | 0,x,u,w,h=>by
  obtain ⟨s,es,h⟩:=h
  exact VW.gd (n:=0) (c:=0) (mk.ok x s es) (fun _ _ _ z=>z.elim) h
 | n+1,x,u,w,h=>by
  obtain ⟨s,es,h⟩:=h
  exact VW.gd (n:=n+1) (c:=CW (n+1)) (mk.ok x s es) (fun _ _ _ z=>⟨(Wr.gd mk z).1.mono (Nat.le_refl _) (by omega),(Wr.gd mk z).2.mono (Nat.le_refl _) (by omega)⟩) h
theorem compG_tup {K:PySem.W.Frag} {H:Hp} {a D:Addr} {xs:List V} {ts rs:List Th} {g:TG} {tt:TT} {te:TE} {fin:Hp->Prop} {σ0:L2.St} (G:Nat->Hp->Prop) (Sg:L2.St->Prop) (ha:∀ i H5,G i H5->Z6 K H5 a xs) (hA:Zw K H ts xs) (hr:rs.length=ts.length) (hl:ts.length<=1000000)
  (up:∀ i H5,G i H5->Vc K H H5) (put:∀ i H5 ys zs,G i H5->H5 D=some (.lst ys)->G i (Z3 H5 D (.lst zs))) (g0:G 0 (Z3 H D (.lst []))) (s0:Sg σ0)
  (h:∀ i t r v σ H5 (Q:V->L2.St->Hp->Prop),ts[i]?=some t->rs[i]?=some r->Sg σ->G i H5->Zd K H5 t v->(∃ ys,H5 D=some (.lst ys))->(∀ v' σ' H6,Sg σ'->G (i+1) H6->Vc K H5 H6->(∀ o,H5 D=some o->H6 D=some o)->Zd K H6 r v'->Q v' σ' H6) ->
   g v σ H5 fun σ2 H2=>tt σ2 H2 fun ok H3=>ok=true/\te σ2 H3 fun y H4=>Q y σ2 H4)
  (mg:∀ v σ H5 (A:L2.St->Hp->Prop) (B:L2.St->Hp->Prop),(g v σ H5 fun σ2 H2=>tt σ2 H2 fun ok H3=>ok=true/\A σ2 H3)->g v σ H5 fun σ2 H2=>tt σ2 H2 fun ok H3=>if ok=true then A σ2 H3 else B σ2 H3)
  (hf:∀ H6 ws σ,Sg σ->G ts.length H6->H6 D=some (.lst ws)->Zw K H6 rs ws->fin H6) :
  ∃ W:Nat->Nat->List V->L2.St->Hp->Prop,(∃ m,W 0 m [] σ0 (Z3 H D (.lst [])))/\CompW (Itt K a) g tt te D W fin:=by
 have hlen:=hA.length
 refine comp_tup (xs:=xs) (fun i ys σ H5=>Sg σ/\Zw K H5 (rs.take i) ys/\G i H5/\H5 D=some (.lst ys)) ⟨s0,rfl,g0,Zz⟩ ?_ ?_ ?_
 ·rintro i ys σ H5 hi ⟨_,_,s5,h5⟩
  exact ⟨ha i H5 s5,h5⟩
 ·rintro i x ys σ H5 hx ⟨sg,ar,s5,h5⟩
  obtain ⟨t,et,it⟩:=hA.got hx
  have hi:i<ts.length:=(List.getElem?_eq_some_iff.mp et).1
  have er:rs[i]?=some rs[i]:=List.getElem?_eq_getElem (by omega)
  refine mg _ _ _ _ _ (h i t _ x σ H5 (fun y σ2 H4=>H4 D=some (.lst ys)/\ys.length<sizeLine/\Sg σ2/\Zw K (Z3 H4 D (.lst (ys++[y]))) (rs.take (i+1)) (ys++[y])/\G (i+1) (Z3 H4 D (.lst (ys++[y])))/\Z3 H4 D (.lst (ys++[y])) D=some (.lst (ys++[y]))) et er sg s5 (Zd.up (up i H5 s5) t x it) ⟨_,h5⟩ fun v' σ' H6 sg' g6 u6 k6 i6=>?_)
  have h6:=k6 _ h5
  refine ⟨h6, ?_,sg', ?_,put _ _ _ _ g6 h6,Zz⟩
  ·rw [<-ar.length,List.length_take]; exact Nat.lt_of_le_of_lt (Nat.le_trans (Nat.min_le_right _ _) (by omega:rs.length<=1000000)) (by decide)
  ·rw [Zr er]
   have uS:Vc K H6 (Z3 H6 D (.lst (ys++[v']))):=Yv h6
   exact Zw.append (Zw.up (u6.trans uS) _ _ ar) (Zw.one (Zd.up uS _ _ i6))
 ·rintro ys σ H5 ⟨sg,ar,s5,h5⟩
  rw [<-hlen] at ar s5
  refine hf H5 ys σ sg s5 h5 ?_
  rw [<-hr,List.take_length] at ar
  exact ar
theorem compG_list {K:PySem.W.Frag} {H:Hp} {a D:Addr} {xs:List V} {ts rs:List Th} {g:TG} {tt:TT} {te:TE} {fin:Hp->Prop} {σ0:L2.St} (G:Nat->Hp->Prop) (Sg:L2.St->Prop) (ha:∀ i H5,G i H5->Z0 K H5 a xs) (hA:Zw K H ts xs) (hr:rs.length=ts.length) (hl:ts.length<=1000000)
  (up:∀ i H5,G i H5->Vc K H H5) (put:∀ i H5 ys zs,G i H5->H5 D=some (.lst ys)->G i (Z3 H5 D (.lst zs))) (g0:G 0 (Z3 H D (.lst []))) (s0:Sg σ0)
  (h:∀ i t r v σ H5 (Q:V->L2.St->Hp->Prop),ts[i]?=some t->rs[i]?=some r->Sg σ->G i H5->Zd K H5 t v->(∃ ys,H5 D=some (.lst ys))->(∀ v' σ' H6,Sg σ'->G (i+1) H6->Vc K H5 H6->(∀ o,H5 D=some o->H6 D=some o)->Zd K H6 r v'->Q v' σ' H6) ->
   g v σ H5 fun σ2 H2=>tt σ2 H2 fun ok H3=>ok=true/\te σ2 H3 fun y H4=>Q y σ2 H4)
  (mg:∀ v σ H5 (A:L2.St->Hp->Prop) (B:L2.St->Hp->Prop),(g v σ H5 fun σ2 H2=>tt σ2 H2 fun ok H3=>ok=true/\A σ2 H3)->g v σ H5 fun σ2 H2=>tt σ2 H2 fun ok H3=>if ok=true then A σ2 H3 else B σ2 H3)
  (hf:∀ H6 ws σ,Sg σ->G ts.length H6->H6 D=some (.lst ws)->Zw K H6 rs ws->fin H6) :
  ∃ W:Nat->Nat->List V->L2.St->Hp->Prop,(∃ m,W 0 m [] σ0 (Z3 H D (.lst [])))/\CompW (Itl K a) g tt te D W fin:=by
 have hlen:=hA.length
 refine Vz (xs:=xs) (fun i ys σ H5=>Sg σ/\Zw K H5 (rs.take i) ys/\G i H5/\H5 D=some (.lst ys)) ⟨s0,rfl,g0,Zz⟩ ?_ ?_ ?_
 ·rintro i ys σ H5 hi ⟨_,_,s5,h5⟩
  exact ⟨ha i H5 s5,h5⟩
 ·rintro i x ys σ H5 hx ⟨sg,ar,s5,h5⟩
  obtain ⟨t,et,it⟩:=hA.got hx
  have hi:i<ts.length:=(List.getElem?_eq_some_iff.mp et).1
  have er:rs[i]?=some rs[i]:=List.getElem?_eq_getElem (by omega)
  refine mg _ _ _ _ _ (h i t _ x σ H5 (fun y σ2 H4=>H4 D=some (.lst ys)/\ys.length<sizeLine/\Sg σ2/\Zw K (Z3 H4 D (.lst (ys++[y]))) (rs.take (i+1)) (ys++[y])/\G (i+1) (Z3 H4 D (.lst (ys++[y])))/\Z3 H4 D (.lst (ys++[y])) D=some (.lst (ys++[y]))) et er sg s5 (Zd.up (up i H5 s5) t x it) ⟨_,h5⟩ fun v' σ' H6 sg' g6 u6 k6 i6=>?_)
  have h6:=k6 _ h5
  refine ⟨h6, ?_,sg', ?_,put _ _ _ _ g6 h6,Zz⟩
  ·rw [<-ar.length,List.length_take]; exact Nat.lt_of_le_of_lt (Nat.le_trans (Nat.min_le_right _ _) (by omega:rs.length<=1000000)) (by decide)
  ·rw [Zr er]
   have uS:Vc K H6 (Z3 H6 D (.lst (ys++[v']))):=Yv h6
   exact Zw.append (Zw.up (u6.trans uS) _ _ ar) (Zw.one (Zd.up uS _ _ i6))
 ·rintro ys σ H5 ⟨sg,ar,s5,h5⟩
  rw [<-hlen] at ar s5
  refine hf H5 ys σ sg s5 h5 ?_
  rw [<-hr,List.take_length] at ar
  exact ar
abbrev s_form_of:Stmt:=top 3
abbrev N_form_of:List Str:=["make","name"]
theorem sc_form_of:Yk N_form_of ["make","name"] (Zf s_form_of):=by trivial
abbrev s_member_of:Stmt:=top 1
abbrev N_member_of:List Str:=["shape","number","member"]
theorem sc_member_of:Yk N_member_of ["shape","number"] (Zf s_member_of):=by trivial
structure TP where
 P:Addr
 lp:Pos
 q:Str
def Tb (T:TP) (H:Hp):Prop:=∃ ps,H T.P=some (.tbl ps)/\TabOk H T.lp T.q ps
structure Go (T:TP) (H H':Hp):Prop where
 sm:SmT T.P H H'
 tb:Tb T H'
section
variable {T:TP} {K:W.Frag} {H H1 H2:Hp}
theorem tab_keep {lp:Pos} {q:Str} {ps:Array Value} (t:TabOk H lp q ps) (h:∀ a o,H a=some (.ext o)->H1 a=some (.ext o)):TabOk H1 lp q ps :=
 ⟨t.1,t.2.imp id fun ⟨c,e,hc⟩=>⟨c,e,h c _ hc⟩⟩
theorem Tb.same (t:Tb T H) (s:Zv H H1):Tb T H1:=let ⟨ps,e,k⟩:=t; ⟨ps,s _ _ e,tab_keep k fun a o h=>s _ _ h⟩
theorem Go.refl (t:Tb T H):Go T H H:=⟨fun _ _ _ h=>h,t⟩
theorem Go.of (t:Tb T H) (s:Zv H H1):Go T H H1:=⟨fun a o _ h=>s a o h,t.same s⟩
theorem Go.trans (g:Go T H H1) (g2:Go T H1 H2):Go T H H2:=⟨fun a o n h=>g2.sm a o n (g.sm a o n h),g2.tb⟩
theorem Go.same (g:Go T H H1) (s:Zv H1 H2):Go T H H2:=g.trans (Go.of g.tb s)
theorem Tb.ne {t:Tb T H} {a:Addr} {o:HO} (h:H a=some o) (n:∀ ps,o≠.tbl ps):a≠T.P:=fun z=>by
 obtain ⟨ps,e,_⟩:=t
 rw [z,e] at h
 cases h
 exact n _ rfl
theorem Tb.far {t:Tb T H} {a:Addr} (h:H a=none):a≠T.P:=fun z=>by
 obtain ⟨ps,e,_⟩:=t
 rw [z,e] at h
 cases h
theorem Go.lst (g:Go T H H1) (t:Tb T H) {a:Addr} {xs:List V} (h:H a=some (.lst xs)):H1 a=some (.lst xs):=g.sm _ _ (Tb.ne (t:=t) h fun _ z=>nomatch z) h
theorem Go.upT (g:Go T H H1) (t:Tb T H):Vc K H H1:=by
 have ne:∀ {x:Addr} {o:HO},H x=some o->(∀ k,o≠.tbl k)->H1 x=some o:=fun e n=>g.sm _ _ (Tb.ne (t:=t) e n) e
 refine ⟨fun c xs q=>?_,fun a xs q=>⟨xs,ne q fun _ z=>nomatch z⟩,fun a k q=>ne q (fun _ z=>nomatch z),fun a o k q=>ne q (fun _ z=>nomatch z)⟩
 rcases q with (q | ⟨o,q⟩) | q
 ·exact .inl (.inl (ne q fun _ z=>nomatch z))
 ·exact .inl (.inr ⟨o,ne q fun _ z=>nomatch z⟩)
 ·exact .inr q
theorem Tb.put (t:Tb T H) {D:Addr} {ys zs:List V} (h:H D=some (.lst ys)):Tb T (Z3 H D (.lst zs)):=by
 have n:=Tb.ne (t:=t) h fun _ z=>nomatch z
 obtain ⟨ps,e,k⟩:=t
 refine ⟨ps,by rw [Zk n.symm]; exact e,tab_keep k fun a o q=>?_⟩
 have:a≠D:=fun z=>by rw [z,h] at q; cases q
 rw [Zk this]; exact q
theorem Go.put (g:Go T H H1) {D:Addr} {ys zs:List V} (hD:H D=none) (h:H1 D=some (.lst ys)):Go T H (Z3 H1 D (.lst zs)) :=
 ⟨fun a o n q=>by
  have:a≠D:=fun z=>by rw [z,hD] at q; cases q
  rw [Zk this]; exact g.sm a o n q,g.tb.put h⟩
end
theorem rd_up {K:W.Frag} {H H':Hp} (u:Vc K H H') {a:Addr} {k:List (Yt × V)} (h:Rd H a (.dK k)):Rd H' a (.dK k):=h.imp (u.dct _ _) fun ⟨o,z⟩=>⟨o,u.frz _ _ _ z⟩
theorem rd_get {H:Hp} {a:Addr} {k:List (Yt × V)} (h:Rd H a (.dK k)) (x:Yt):DGet H a (kV x) (valV k x):=.inl ⟨k,x,h,rfl,rfl⟩
structure MkAt (K:W.Frag) (H:Hp) (e S:Addr) (ms:List (Str × Yr)):Prop where
 e:∃ v,Z6 K H e [v,.ref S]
 d:∃ kvs,Rd H S (.dK kvs)/\Dm K H kvs ms
theorem MkAt.up {K:W.Frag} {H H':Hp} {e S:Addr} {ms:List (Str × Yr)} (h:MkAt K H e S ms) (u:Vc K H H'):MkAt K H' e S ms :=
 let ⟨v,hv⟩:=h.e
 let ⟨kvs,q,d⟩:=h.d
 ⟨⟨v,u.tup _ _ hv⟩,kvs,rd_up u q,d.up (upO_of u)⟩
theorem MkAt.get {K:W.Frag} {H:Hp} {e S:Addr} {ms:List (Str × Yr)} (h:MkAt K H e S ms) {x:Str} {s:Yr} (es:lkM ms x=some s):∃ kvs v,Rd H S (.dK kvs)/\valV kvs (.inr x)=some v/\Zd K H s.t v:=by
 obtain ⟨kvs,q,d⟩:=h.d
 rcases d.val x with ⟨z,_⟩ | ⟨s',v,e1,e2,e3⟩
 ·rw [es] at z; cases z
 ·rw [es] at e1; cases e1
  exact ⟨kvs,v,q,e2,e3⟩
def spForm (K:W.Frag):Sp:=fun vs H Q _=>∃ (e S:Addr) (ms:List (Str × Yr)) (x:Str) (s:Yr),vs=[.ref e,.str x]/\MkAt K H e S ms/\lkM ms x=some s/\∀ v,Zd K H s.t v->Q v H
def spMember (K:W.Frag):Sp:=fun vs H Q _=>∃ (sv:V) (fs:List Vm) (us:List Int) (o:Bool) (f:Vm),vs=[sv,.int f.n]/\Zd K H (Yr.cho fs us o).t sv/\(fs.map Vm.n).Nodup/\f∈fs/\fs.length<=5/\∀ v,Zd K H f.a v->Q v H
section
variable {P:Program} {w:World} {K:W.Frag} {mg:Str->Option Value} {base:Heap} {f:Addr} {fd:FuncData}
theorem ok_form_of (F:Fun K "form_of" "form_of" s_form_of f fd) (m:Bn mg):Y4 P w K mg base CX0 1 f fd ["make","name"] (spForm K):=by
 refine F.ok sc_form_of (fun vs H Q E h=>?_) (fun cdv A outer s H vs Q E hr h=>?_)
 ·obtain ⟨e,S,ms,x,s,rfl,_⟩:=h
  rfl
 obtain ⟨e,S,ms,x,sh,rfl,mk,es,q⟩:=h
 refine ⟨_,(@Zb _ _ _ (@Zp _ _ _ _ (@pe_dget1 _ _ _ _ _ _ _ (hu_of hr) (@Zm _ _ _ _ _ _ _ Zt (pv 0) Zq (fun _ _=>rfl)) (pv 1) ⟨rfl,rfl,rfl,rfl⟩))), ?_⟩
 obtain ⟨v0,he⟩:=mk.e
 obtain ⟨kvs,v,hS,ev,iv⟩:=mk.get es
 refine ⟨_,rfl,e,_,_,_,rfl,rfl,he,Va,S,rfl,.inl ⟨_,hS⟩,_,rfl,_,rd_get hS (.inr x), ?_⟩
 rw [ev]
 exact q v iv
theorem nodup_n {fs:List Vm} (nd:(fs.map Vm.n).Nodup) {f g:Vm} (mf:f∈fs) (mg:g∈fs) (e:f.n=g.n):f=g:=by
 induction fs with
 | nil=>cases mf
 | cons h fs ih =>
  rw [List.map_cons,List.nodup_cons] at nd
  rcases List.mem_cons.mp mf with z | mf
  ·rcases List.mem_cons.mp mg with z' | mg
   ·rw [z,z']
   ·exact absurd (by rw [<-z,e]; exact List.mem_map_of_mem mg) nd.1
  ·rcases List.mem_cons.mp mg with z' | mg
   ·exact absurd (by rw [<-z', <-e]; exact List.mem_map_of_mem mf) nd.1
   ·exact ih nd.2 mf mg
theorem ok_member_of (F:Fun K "member_of" "member_of" s_member_of f fd) (m:Bn mg):Y4 P w K mg base CX0 1 f fd ["shape","number"] (spMember K):=by
 refine F.ok sc_member_of (fun vs H Q E h=>?_) (fun cdv A outer s H vs Q E hr h=>?_)
 ·obtain ⟨sv,fs,us,o,f,rfl,_⟩:=h
  rfl
 obtain ⟨sv,fs,us,o,g,rfl,is,nd,mg',l5,q⟩:=h
 refine ⟨_,(@Zj _ _ _ _ _ (@ps_for _ _ _ _ _ _ _ _ PassesOwn.never rfl (@V0 _ _ _ _ (@Zm _ _ _ _ _ _ _ Zt (pv 0) Zq (fun _ _=>rfl))) (@Zn _ 2 _ _ sc_member_of.nd rfl (by trivial) (by trivial)) (@Zb _ _ _ (@Yz _ _ _ _ _ _ _ _ (@Zl _ _ _ _ _ _ _ _ Yf (@Zm _ _ _ _ _ _ _ Zt (pv 2) Zq (fun _ _=>rfl)) (pv 1) (Zh _)) (@Zb _ _ _ (@Zp _ _ _ _ (pv 2))) Za)) (by trivial)) (@Zb _ _ _ (@Zp _ _ _ _ pe_non))), ?_⟩
 obtain ⟨a,ws,rfl,ha,at'⟩:=is
 obtain ⟨w1,w2,w3,w4,rfl,i1,i2,i3,i4⟩:=are4 at'
 obtain ⟨pa,xs,rfl,hpa,axs⟩:=i2
 refine ⟨_,rfl,a,_,_,_,rfl,rfl,ha,Va,pa,rfl,⟨_,hpa⟩, ?_⟩
 refine for_tup (K:=K) (xs:=xs) (fun i σ H5=>(∃ o',σ=[some (.ref a),some (.int g.n),o'])/\H5=H/\∀ h∈fs.take i,h≠g) ⟨⟨_,rfl⟩,rfl,fun h m=>absurd m List.not_mem_nil⟩ ?_ ?_ ?_
 ·rintro i σ H5 hi ⟨_,rfl,_⟩
  exact hpa
 ·rintro i x σ H5 hx ⟨⟨o',rfl⟩,rfl,no⟩
  obtain ⟨t,et,it⟩:=axs.got hx
  rw [List.getElem?_map] at et
  obtain ⟨h,eh,rfl⟩:=Option.map_eq_some_iff.mp et
  have it0:=it
  obtain ⟨b,ys,rfl,hb,ay⟩:=it
  obtain ⟨y1,y2,y3,rfl,j1,j2,j3⟩:=are3 ay
  cases (show y1=.int h.n from j1)
  refine ⟨_,rfl,b,_,_,_,rfl,rfl,hb,at0,_,rfl,rfl,_,rfl, ?_⟩
  refine V1 (fun c=>?_) (fun c=>?_)
  ·have c:h.n=g.n:=by injection of_decide_eq_true c
   have:=nodup_n nd (List.mem_of_getElem? eh) mg' c
   subst this
   exact ⟨_,rfl,q _ it0⟩
  ·refine ⟨⟨_,rfl⟩,rfl,fun z mz=>?_⟩
   rw [Zr eh] at mz
   rcases List.mem_append.mp mz with mz | mz
   ·exact no z mz
   ·rw [List.mem_singleton.mp mz]
    exact fun e=>c (by rw [e]; exact decide_eq_true rfl)
 ·rintro σ H5 ⟨_,rfl,no⟩
  rw [<-axs.length,List.length_map,List.take_length] at no
  exact absurd rfl (no g mg')
end
abbrev Vf:Stmt:=top 6
abbrev N_written_fields:List Str:=["make","fields"]
theorem sc_written_fields:Yk N_written_fields ["make","fields"] (Zf Vf):=by trivial
def spWr (K:PySem.W.Frag) (T:TP) (W:List (Str × Yr)->Str->Th->Th->Prop):Sp:=fun vs H Q _=>∃ (e S:Addr) (ms:List (Str × Yr)) (x:Str) (u w:Th) (v:V),vs=[.ref e,.str x,v]/\MkAt K H e S ms/\MkOk ms/\W ms x u w/\Zd K H u v/\Tb T H/\∀ v' H',Zd K H' w v'->Go T H H'->Q v' H'
def entT (e:Ent):Th:=.tup [e.f.t,e.u]
def spFields (K:PySem.W.Frag) (T:TP) (W:List (Str × Yr)->Str->Th->Th->Prop):Sp:=fun vs H Q _=>∃ (e S L:Addr) (ms:List (Str × Yr)) (l:List Ent) (ws:List V),vs=[.ref e,.ref L]/\MkAt K H e S ms/\MkOk ms/\H L=some (.lst ws)/\Zw K H (l.map entT) ws/\l.length<=5/\(∀ t∈l,W ms t.f.y t.u t.w/\nqT t.u/\∀ d,t.f.d=some d->nqT d/\dpD (thD d)<=4)/\Tb T H /\
 ∀ D ws' H',H' D=some (.lst ws')->H D=none->Zw K H' ((kept l).map prT) ws'->Go T H H'->Q (.ref D) H'
theorem kept_snoc (l:List Ent) (e:Ent):kept (l++[e])=kept l++(if lfo e=true then [] else [(e.f.n,e.w)]):=by
 unfold kept
 rw [List.filter_append,List.map_append]
 congr 1
 cases h:lfo e <;> simp [h]
theorem opt_eq (e:Ent):eqD (.tup (Vv e.f.d.toList)) (.tup (Vv [e.u]))=lfo e:=by
 unfold lfo
 cases e.f.d with
 | none=>rfl
 | some d =>
  show (eqD (thD d) (thD e.u) && eqDs [] [])=_
  rw [show eqDs [] []=true from rfl,Bool.and_true]
section
variable {P:Program} {w:World} {K:W.Frag} {mg:Str->Option Value} {base:Heap} {f:Addr} {fd:FuncData}
theorem Vw {T:TP} {k:Nat} {W:List (Str × Yr)->Str->Th->Th->Prop} (F:Fun K "written_fields" "written_fields" Vf f fd) (m:Bn mg) (g_written:Fn P w K mg base k "written" ["make","name","value"] (spWr K T W)):Y4 P w K mg base CX0 (k+1) f fd ["make","fields"] (spFields K T W):=by
 refine F.ok sc_written_fields (fun vs H Q E h=>?_) (fun cdv A outer s H vs Q E hr h=>?_)
 ·obtain ⟨e,S,L,ms,l,ws,rfl,_⟩:=h
  rfl
 obtain ⟨e,S,L,ms,l,ws,rfl,mk,mo,hL,al,l5,hl,tb,q⟩:=h
 refine ⟨_,(@Zb _ _ _ (@Zp _ _ _ _ (@Yw _ N_written_fields (Zf Vf) ["field","value","make"] [none,none,some 0] _ _ _ _ _ _ _ _ _ _ rfl (@Vj _ _ _ _ (pv 1)) ⟨rfl,rfl,by decide +kernel,by decide +kernel⟩ (fun _ _ _=>(@pg_tup _ _ _ _ _ _ rfl (@Yj _ _ _ _ _ (@Zn _ 0 _ _ (show List.Nodup (["field","value","make"]:List Str) from by decide +kernel) rfl (Or.inl rfl) (by trivial)) (@Yj _ _ _ _ _ (@Zn _ 1 _ _ (show List.Nodup (["field","value","make"]:List Str) from by decide +kernel) rfl (Or.inl rfl) (by trivial)) pgs_nil (by trivial)) (by trivial)) (by trivial) (by trivial))) (fun _ _ _=>(@pts_one _ _ _ (@Zl _ _ _ _ _ _ _ _ op_neD (@Zm _ _ _ _ _ _ _ Zt (pv 0) Zq (fun _ _=>rfl)) (@Zu _ _ _ _ _ (Zg (pv 1) Zx rfl)) (Zh _)))) (fun _ _ _=>(@Zu _ _ _ _ _ (Zg (@Zm _ _ _ _ _ _ _ Zt (pv 0) Zq (fun _ _=>rfl)) (Zg (@Zy _ _ _ _ _ _ _ _ _ _ g_written hr.m rfl (Zg (pv 2) (Zg (@Zm _ _ _ _ _ _ _ Zt (pv 0) Zq (fun _ _=>rfl)) (Zg (pv 1) Zx rfl) rfl) rfl) (by decide) rfl rfl) Zx rfl) rfl))) (by trivial)))), ?_⟩
 refine ⟨_,rfl,L,rfl,⟨_,Z0.of hL⟩,fun D fp sx hD=>?_⟩
 have nLD:L≠D:=Z4 hL hD
 refine Vz (K:=K) (xs:=ws) (fun i ys σ H5=>(∃ o1 o2,σ=[o1,o2,some (.ref e)])/\Go T H H5/\H5 D=some (.lst ys)/\Zw K H5 ((kept (l.take i)).map prT) ys)
  ⟨⟨_,_,rfl⟩,(Go.of tb (Zv.lay hD)),Zz,rfl⟩ ?_ ?_ ?_
 ·rintro i ys σ H5 hi ⟨_,g5,h5,_⟩
  exact ⟨Z0.of (g5.lst tb hL),h5⟩
 ·rintro i x ys σ H5 hx ⟨⟨o1,o2,rfl⟩,g5,h5,ay⟩
  obtain ⟨t,et,it⟩:=al.got hx
  rw [List.getElem?_map] at et
  obtain ⟨en,ee,rfl⟩:=Option.map_eq_some_iff.mp et
  obtain ⟨wn,nqu,hd⟩:=hl en (List.mem_of_getElem? ee)
  have u5:Vc K H H5:=g5.upT tb
  obtain ⟨a,xs,rfl,ha,ax⟩:=Zd.up u5 _ _ it
  obtain ⟨fv,uv,rfl,if_,iu⟩:=are2 ax
  obtain ⟨fa,fx,rfl,hfa,afx⟩:=if_
  obtain ⟨v1,v2,v3,v4,rfl,j1,j2,j3,j4⟩:=are4 afx
  cases (show v1=.int en.f.n from j1)
  cases (show v3=.str en.f.y from j3)
  refine ⟨a,_,rfl,ha,rfl,_,_,rfl,_,_,rfl,rfl, ?_⟩
  refine ⟨_,rfl,fa,_,_,_,rfl,rfl,hfa,at3,_,rfl,(sz 1),fun e1 h1=>?_⟩
  have s1:=Zv.lay (o:=.tup [uv]) h1
  have nd:nqT (.tup en.f.d.toList)/\dpD (thD (.tup en.f.d.toList))<=100:=by
   cases ed:en.f.d with
   | none=>exact ⟨trivial,(by decide:1<=100)⟩
   | some d =>
    obtain ⟨n1,n2⟩:=hd d ed
    refine ⟨⟨n1,trivial⟩, ?_⟩
    show max (dpD (thD d)) 0+1<=100
    omega
  have dD:=Vn _ _ nd.1 (Zd.up s1.upT _ _ j4)
  have dU:Vu K (Z3 H5 e1 (.tup [uv])) (.tup (Vv [en.u])) (.ref e1):=⟨e1,_,rfl,Z6.of Zz,_,_,rfl,Vn _ _ nqu (Zd.up s1.upT _ _ iu),rfl⟩
  refine ⟨_,_,dD,dU, ?_,_,rfl, ?_⟩
  ·have h:A.units+3+16 * k+200<cLine:=hr.un
   show A.units+3+_<cLine
   exact Nat.lt_of_le_of_lt (Nat.add_le_add_left nd.2 _) (by omega)
  have g6:=g5.same s1
  have h6:=s1 _ _ h5
  show if (!eqD (.tup (Vv en.f.d.toList)) (.tup (Vv [en.u])))=true then _ else _
  rw [opt_eq en]
  refine V1 (fun c=>?_) (fun c=>?_)
  ·refine ⟨_,rfl,fa,_,_,_,rfl,rfl,s1.up _ _ hfa,at0,_,rfl,_,rfl,fa,_,_,_,rfl,rfl,s1.up _ _ hfa,at2,_,rfl,e,S,ms,en.f.y,en.u,en.w,uv,rfl,mk.up (u5.trans s1.upT),mo,wn,Zd.up s1.upT _ _ iu,g6.tb,fun v' H7 iv g7=>⟨(sz 2),fun e2 h2=>?_⟩⟩
   have s2:=Zv.lay (o:=.tup [.int en.f.n,v']) h2
   have g8:=(g6.trans g7).same s2
   have h8:=s2 _ _ (g7.lst g6.tb h6)
   have u8:=s1.upT.trans ((g7.upT (K:=K) g6.tb).trans s2.upT)
   have uS:Vc K _ (Z3 _ D (.lst (ys++[.ref e2]))):=Yv h8
   have c:lfo en=false:=by
    cases z:lfo en
    ·rfl
    ·rw [z] at c; cases c
   refine ⟨h8, ?_,⟨_,_,rfl⟩,g8.put hD h8,Zz, ?_⟩
   ·rw [<-ay.length,List.length_map]
    have:=kept_len (l.take i)
    rw [List.length_take] at this
    exact Nat.lt_of_le_of_lt (show (kept (l.take i)).length<=8 by omega) (by decide)
   ·rw [Zr ee,kept_snoc,c,List.map_append]
    exact Zw.append (Zw.up (u8.trans uS) _ _ ay) (Zw.one (Zd.up uS _ _ ⟨e2,_,rfl,Z6.of Zz,_,_,rfl,rfl,_,_,rfl,Zd.up s2.upT _ _ iv,rfl⟩))
  ·refine ⟨⟨_,_,rfl⟩,g6,h6, ?_⟩
   have c:lfo en=true:=by
    cases z:lfo en
    ·rw [z] at c; exact absurd rfl c
    ·rfl
   rw [Zr ee,kept_snoc,if_pos c,List.append_nil]
   exact Zw.up s1.upT _ _ ay
 ·rintro ys σ H5 ⟨_,g5,h5,ay⟩
  have ll:=al.length
  rw [List.length_map] at ll
  rw [<-ll,List.take_length] at ay
  exact q D ys H5 h5 hD ay g5
end
abbrev Vh:Stmt:=top 5
abbrev N_written:List Str:=["make","name","value","shape","sort","pairs","item"]
theorem sc_written:Yk N_written ["make","name","value"] (Zf Vh):=by trivial
structure FunC (K:W.Frag) (x qual:Str) (st:Stmt) (f:Addr) (fd:FuncData) (c:Addr):Prop where
 ex:∃ (oc:Value) (od:Option Addr) (kV doc pm:Value) (an:Option Addr) (ct:Value) (osl:Array (Option Value)),
  fd=W.fnOf x qual (defArgs st) (V2 st) (Zf st) .none kV doc pm an (.ref c) ct/\K.lookup f=some ⟨oc,od,.func fd,osl⟩/\W.codeIn K (.ref c) qual=true
 kp:W.keepIn K (.ref f)=true
section
variable {P:Program} {w:World} {K:W.Frag} {mg:Str->Option Value} {base:Heap}
theorem FunC.ok {x qual:Str} {st:Stmt} {f c:Addr} {fd:FuncData} {N ps:List Str} {k:Nat} {sp:Sp} (F:FunC K x qual st f fd c) (S:Yk N ps (Zf st)) (len:∀ vs H Q E,sp vs H Q E->vs.length=ps.length)
  (hbody:∀ (A:Around) (outer:List Env) (s:Shared) (H:Hp) (vs:List V) (Q:VK) (E:XK),Vr k (A.deeper (envOfC qual (Zf st) s.heap.objs.size f (.ref c)))->sp vs H Q E ->
   ∃ t,PSs (cxOf CX0 P w K mg base N qual (Zf st) f (.ref c) A outer s H E).nox (V2 st) t/\t { nx:=fun _ H'=>Q .non H',rt:=Q } (start N vs) H):Y4 P w K mg base CX0 (k+1) f fd ps sp:=by
 obtain ⟨oc,od,kV,doc,pm,an,ct,osl,rfl,lk,hcd⟩:=F.ex
 refine fn_of lk hcd S len fun A outer s H vs Q E hr hsp=>?_
 obtain ⟨t,h,q⟩:=hbody A outer s H vs Q E hr hsp
 exact ⟨t,h.nox,q⟩
end
theorem paired_perm {α β:Type} {R:α->β->Prop} {ys' ys:List β} (p:ys'.Perm ys):∀ {xs:List α},Paired R xs ys->∃ xs',xs'.Perm xs/\Paired R xs' ys':=by
 induction p with
 | nil=>exact fun {xs} h=>⟨xs,.refl _,h⟩
 | cons y _ ih =>
  intro xs h
  cases h with
  | cons r t =>
   obtain ⟨x',p',h'⟩:=ih t
   exact ⟨_::x',p'.cons _,.cons r h'⟩
 | swap a b l =>
  intro xs h
  cases h with
  | cons r t =>
   cases t with
   | cons r2 t2=>exact ⟨_::_::_,List.Perm.swap _ _ _,.cons r2 (.cons r t2)⟩
 | trans _ _ ih1 ih2 =>
  intro xs h
  obtain ⟨x2,p2,h2⟩:=ih2 h
  obtain ⟨x1,p1,h1⟩:=ih1 h2
  exact ⟨x1,p1.trans p2,h1⟩
def KR (K:W.Frag) (H:Hp) (p:Int × Th) (q:Int × V):Prop:=p.1=q.1/\Zd K H (prT p) q.2
theorem zip_KR {K:W.Frag} {H:Hp}:∀ {l:List (Int × Th)} {vs:List V},Zw K H (l.map prT) vs->Paired (KR K H) l ((l.map (·.1)).zip vs)
 | [],vs,h=>by
  cases (show vs=[] from h)
  exact .nil
 | p::l,vs,h=>by
  obtain ⟨v,r,rfl,i,a⟩:=h
  exact .cons ⟨rfl,i⟩ (zip_KR a)
theorem KR_are {K:W.Frag} {H:Hp}:∀ {l:List (Int × Th)} {qs:List (Int × V)},Paired (KR K H) l qs->Zw K H (l.map prT) (qs.map (·.2))
 | _,_,.nil=>rfl
 | _,_,.cons r t=>⟨_,_,rfl,r.2,KR_are t⟩
theorem KR_le {K:W.Frag} {H:Hp}:∀ {l:List (Int × Th)} {qs:List (Int × V)},Paired (KR K H) l qs->l.map (·.1)=qs.map (·.1)
 | _,_,.nil=>rfl
 | _,_,.cons r t=>by rw [List.map_cons,List.map_cons,r.1,KR_le t]
theorem key_inj {l:List (Int × Th)} (nd:(l.map (·.1)).Nodup) {a b:Int × Th} (ma:a∈l) (mb:b∈l) (e:a.1=b.1):a=b:=by
 induction l with
 | nil=>cases ma
 | cons h fs ih =>
  rw [List.map_cons,List.nodup_cons] at nd
  rcases List.mem_cons.mp ma with z | ma
  ·rcases List.mem_cons.mp mb with z' | mb
   ·rw [z,z']
   ·exact absurd (by rw [<-z,e]; exact List.mem_map_of_mem mb) nd.1
  ·rcases List.mem_cons.mp mb with z' | mb
   ·exact absurd (by rw [<-z', <-e]; exact List.mem_map_of_mem ma) nd.1
   ·exact ih nd.2 ma mb
theorem sorted_uniq {l a b:List (Int × Th)} (nd:(l.map (·.1)).Nodup) (pa:a.Perm l) (pb:b.Perm l) (sa:a.Pairwise fun x y=>x.1<=y.1) (sb:b.Pairwise fun x y=>x.1<=y.1):a=b :=
 List.Perm.eq_of_pairwise (fun x y mx my h1 h2=>key_inj nd (pa.mem_iff.mp mx) (pb.mem_iff.mp my) (Int.le_antisymm h1 h2)) sa sb (pa.trans pb.symm)
theorem sorted_are {K:W.Frag} {H:Hp} {l ps:List (Int × Th)} {vs:List V} {qs:List (Int × V)} (h:Zw K H (l.map prT) vs) (perm:qs.Perm ((l.map (·.1)).zip vs)) (srt:qs.Pairwise fun a b=>a.1<=b.1) (pp:ps.Perm l) (sp:ps.Pairwise fun a b=>a.1<=b.1) (nd:(l.map (·.1)).Nodup):Zw K H (ps.map prT) (qs.map (·.2)):=by
 obtain ⟨l',p',k'⟩:=paired_perm perm (zip_KR h)
 have e:=KR_le k'
 have s':l'.Pairwise fun a b=>a.1<=b.1:=by
  have:(qs.map (·.1)).Pairwise (·<=·):=List.pairwise_map.mpr srt
  rw [<-e] at this
  exact List.pairwise_map.mp this
 rw [sorted_uniq nd pp p' sp s']
 exact KR_are k'
theorem keyd_of {K:W.Frag} {H:Hp} {l:List (Int × Th)} {vs:List V} (h:Zw K H (l.map prT) vs):Keyd K H vs (l.map (·.1)):=by
 refine ⟨by rw [<-h.length,List.length_map,List.length_map],fun i x k ex ek=>?_⟩
 obtain ⟨t,et,it⟩:=h.got ex
 rw [List.getElem?_map] at et ek
 obtain ⟨p,ep,rfl⟩:=Option.map_eq_some_iff.mp et
 rw [ep] at ek
 cases ek
 obtain ⟨a,ys,rfl,ha,y,r,rfl,iy,_⟩:=it
 cases (show y=.int p.1 from iy)
 exact ⟨a,r,rfl,ha⟩
theorem keys_nd {own:Bool} {l:List Ent} {os:List (Int × Th)} (ho:OsOk own (l.map Ent.f) os) (nd:((l.map Ent.f).map Vm.n).Nodup):((kept l++os).map (·.1)).Nodup:=by
 have e:(kept l).map (·.1)=((l.filter fun e=>!lfo e).map Ent.f).map Vm.n:=by
  unfold kept
  rw [List.map_map,List.map_map]
  rfl
 have sb:((kept l).map (·.1)).Sublist ((l.map Ent.f).map Vm.n):=by
  rw [e]
  exact (List.filter_sublist.map _).map _
 rw [List.map_append]
 refine List.nodup_append.mpr ⟨nd.sublist sb,ho.nd,fun a ma b mb z=>?_⟩
 obtain ⟨o,mo,rfl⟩:=List.mem_map.mp mb
 exact (ho.ok o mo).1 (z ▸ sb.subset ma)
theorem wr_nq {own:Bool} {ms:List (Str × Yr)} (mo:MkOk ms):∀ {n:Nat} {x:Str} {u w:Th},Wr' own ms n x u w->nqT u
 | 0,_,_,_,h=>False.elim h
 | n+1,_,_,_,h=>(Wr.gd mo (n:=n) h).1.nq
theorem pv_nq {s:Yr} {d:Th} (h:Pv s d):nqT d/\dpD (thD d)<=4:=by
 cases d with
 | tup ts =>
  cases ts with
  | nil=>exact ⟨trivial,(by decide:1<=4)⟩
  | cons t ts=>cases s <;> exact h.elim
 | opq=>cases s <;> exact h.elim
 | _=>exact ⟨trivial,Nat.zero_le _⟩
theorem ents_of {K:W.Frag} {H:Hp}:∀ {l:List Ent} {as:List Addr} {fx kx:List V},AtPairs H as fx kx->Zw K H ((l.map Ent.f).map Vm.t) fx->Zw K H (l.map Ent.u) kx->Zw K H (l.map entT) (as.map V.ref)
 | [],as,fx,kx,ap,af,ak=>by
  cases (show fx=[] from af)
  cases as with
  | nil=>rfl
  | cons a as=>obtain ⟨x,xr,y,yr,e,_⟩:=ap; cases e
 | t::l,as,fx,kx,ap,af,ak=>by
  obtain ⟨v,r,rfl,i,a1⟩:=af
  obtain ⟨v',r',rfl,i',a2⟩:=ak
  cases as with
  | nil=>rcases (show _\/_ from ap) with e | e <;> cases e
  | cons a as =>
   obtain ⟨x,xr,y,yr,e1,e2,h,ap⟩:=ap
   cases e1; cases e2
   exact ⟨_,_,rfl,⟨a,_,rfl,Z6.of h,_,_,rfl,i,_,_,rfl,i',rfl⟩,ents_of ap a1 a2⟩
def TW (p:Addr):TP:=⟨p,{ line:=22,col:=47,endLine:=22,endCol:=67 },(envOfC (Str.ofString "written") (Zf Vh) 0 0 .none).qual++Str.ofString "<lambda>"⟩
structure LamW (K:W.Frag) (mg:Str->Option Value) (c T:Addr):Prop where
 c:∀ h,K.In h->W.CodeHd h c T
 bi:∀ h,K.In h->h.BuiltinsAt mg T
 ne:mainGlobals≠T
section
variable {P:Program} {w:World} {K:W.Frag} {mg:Str->Option Value} {base:Heap} {f c:Addr} {fd:FuncData}
theorem ok_written {tp:Addr} {k:Nat} {own:Bool} {n:Nat} (F:FunC K "written" "written" Vh f fd c) (lam:LamW K mg c tp) (m:Bn mg) (g_form_of:Fn P w K mg base 1 "form_of" ["make","name"] (spForm K)) (g_member_of:Fn P w K mg base 1 "member_of" ["shape","number"] (spMember K))
  (g_written:Fn P w K mg base k "written" ["make","name","value"] (spWr K (TW tp) fun ms=>Wr' own ms n)) (g_written_fields:Fn P w K mg base (k+1) "written_fields" ["make","fields"] (spFields K (TW tp) fun ms=>Wr' own ms n)):Y4 P w K mg base CX0 (k+2) f fd ["make","name","value"] (spWr K (TW tp) fun ms=>Wr own ms n):=by
 refine F.ok sc_written (fun vs H Q E h=>?_) (fun A outer s H vs Q E hr h=>?_)
 ·obtain ⟨e,S,ms,x,u,w,v,rfl,_⟩:=h
  rfl
 obtain ⟨e,S,ms,x,u,wt,v,rfl,mk,mo,hw,iu,tb,q⟩:=h
 have lamAt:LamAt (cxOf CX0 P w K mg base N_written "written" (Zf Vh) f (.ref c) A outer s H E).nox tp:=⟨⟨c,rfl,lam.c⟩,lam.bi,lam.ne⟩
 refine ⟨_,(@Zj _ _ _ _ _ (@Zo _ 3 _ _ _ _ _ sc_written.nd rfl (by trivial) (@Zy _ _ _ _ _ _ _ _ _ _ g_form_of hr.m rfl (Zg (pv 0) (Zg (pv 1) Zx rfl) rfl) (by decide) rfl rfl) rfl (by trivial)) (@Zj _ _ _ _ _ (@Zo _ 4 _ _ _ _ _ sc_written.nd rfl (by trivial) (@Zm _ _ _ _ _ _ _ Zt (pv 3) Zq (fun _ _=>rfl)) rfl (by trivial)) (@Zj _ _ _ _ _ (@Yz _ _ _ _ _ _ _ _ (@Zl _ _ _ _ _ _ _ _ Yf (pv 4) Zc (Zh _)) (@Zb _ _ _ (@Zp _ _ _ _ (@Zu _ _ _ _ _ (Zg Zc (Zg (@Ze _ _ _ _ _ _ _ _ _ call_int1 rfl m.int b_int (Zg (pv 2) Zx rfl) (by trivial) (by trivial) (by trivial) (by trivial)) Zx rfl) rfl)))) Za) (@Zj _ _ _ _ _ (@Yz _ _ _ _ _ _ _ _ (@Zl _ _ _ _ _ _ _ _ Yf (pv 4) Zc (Zh _)) (@Zb _ _ _ (@Zp _ _ _ _ (@Zu _ _ _ _ _ (Zg (pv 4) (Zg (@Ze _ _ _ _ _ _ _ _ _ Zi rfl m.tuple Ya (Zg (@Yw _ N_written (Zf Vh) ["part","make","shape"] [none,some 0,some 3] _ _ _ _ _ _ _ _ _ _ rfl (@V0 _ _ _ _ (pv 2)) ⟨rfl,rfl,by decide +kernel,by decide +kernel⟩ (fun _ _ _=>(@Zn _ 0 _ _ (show List.Nodup (["part","make","shape"]:List Str) from by decide +kernel) rfl (Or.inl rfl) (by trivial))) (fun _ _ _=>Yn) (fun _ _ _=>(@Zy _ _ _ _ _ _ _ _ _ _ g_written hr.m rfl (Zg (pv 1) (Zg (@Zm _ _ _ _ _ _ _ Zt (pv 2) Zq (fun _ _=>rfl)) (Zg (pv 0) Zx rfl) rfl) rfl) (by decide) rfl rfl)) (by trivial)) Zx rfl) (by trivial) (by trivial) (by trivial) (by trivial)) Zx rfl) rfl)))) Za) (@Zj _ _ _ _ _ (@Yz _ _ _ _ _ _ _ _ (@Zl _ _ _ _ _ _ _ _ Yf (pv 4) Zc (Zh _)) (@Zb _ _ _ (@Zp _ _ _ _ (@Zu _ _ _ _ _ (Zg (pv 4) (Zg (@Ze _ _ _ _ _ _ _ _ _ Zi rfl m.tuple Ya (Zg (@Yw _ N_written (Zf Vh) ["key","part","make","shape"] [none,none,some 0,some 3] _ _ _ _ _ _ _ _ _ _ rfl (@V0 _ _ _ _ (pv 2)) ⟨rfl,rfl,by decide +kernel,by decide +kernel⟩ (fun _ _ _=>(@pg_tup _ _ _ _ _ _ rfl (@Yj _ _ _ _ _ (@Zn _ 0 _ _ (show List.Nodup (["key","part","make","shape"]:List Str) from by decide +kernel) rfl (Or.inl rfl) (by trivial)) (@Yj _ _ _ _ _ (@Zn _ 1 _ _ (show List.Nodup (["key","part","make","shape"]:List Str) from by decide +kernel) rfl (Or.inl rfl) (by trivial)) pgs_nil (by trivial)) (by trivial)) (by trivial) (by trivial))) (fun _ _ _=>Yn) (fun _ _ _=>(@Zu _ _ _ _ _ (Zg (pv 0) (Zg (@Zy _ _ _ _ _ _ _ _ _ _ g_written hr.m rfl (Zg (pv 2) (Zg (@Zm _ _ _ _ _ _ _ Zt (pv 3) Zq (fun _ _=>rfl)) (Zg (pv 1) Zx rfl) rfl) rfl) (by decide) rfl rfl) Zx rfl) rfl))) (by trivial)) Zx rfl) (by trivial) (by trivial) (by trivial) (by trivial)) Zx rfl) rfl)))) Za) (@Zj _ _ _ _ _ (@Yz _ _ _ _ _ _ _ _ (@Zl _ _ _ _ _ _ _ _ Yf (pv 4) Zc (Zh _)) (@Zj _ _ _ _ _ (@Zo _ 5 _ _ _ _ _ sc_written.nd rfl (by trivial) (@Yx _ _ _ _ _ _ _ _ op_cat (@Zy _ _ _ _ _ _ _ _ _ _ g_written_fields hr.m rfl (Zg (pv 0) (Zg (@pe_listZipT _ _ _ _ _ _ _ _ rfl rfl m.list rfl m.zip (Zg (@Zm _ _ _ _ _ _ _ Zt (pv 3) Zq (fun _ _=>rfl)) (Zg (@Zm _ _ _ _ _ _ _ Zt (pv 2) Zq (fun _ _=>rfl)) Zx rfl) rfl) (by trivial) (by trivial) (by trivial)) Zx rfl) rfl) (by decide) rfl rfl) (@Ze _ _ _ _ _ _ _ _ _ call_list_of rfl m.list b_list (Zg (@Zm _ _ _ _ _ _ _ Zt (pv 2) Zq (fun _ _=>rfl)) Zx rfl) (by trivial) (by trivial) (by trivial) (by trivial))) rfl (by trivial)) (@Zb _ _ _ (@Zp _ _ _ _ (@Zu _ _ _ _ _ (Zg Zc (Zg (@Ze _ _ _ _ _ _ _ _ _ Zi rfl m.tuple Ya (Zg (pe_sortKey hr lamAt rfl m.sorted (Zg (pv 5) Zx rfl) rfl) Zx rfl) (by trivial) (by trivial) (by trivial) (by trivial)) Zx rfl) rfl))))) Za) (@Zj _ _ _ _ _ (@Yz _ _ _ _ _ _ _ _ (@Zl _ _ _ _ _ _ _ _ Yf (pv 4) Zc (Zh _)) (@Zj _ _ _ _ _ (@Zo _ 6 _ _ _ _ _ sc_written.nd rfl (by trivial) (@pe_ifExp _ _ _ _ _ _ _ _ (@Zl _ _ _ _ _ _ _ _ Yf (@Zm _ _ _ _ _ _ _ Zt (pv 2) Zq (fun _ _=>rfl)) Zc (Zh _)) (@Zm _ _ _ _ _ _ _ Zt (pv 2) Zq (fun _ _=>rfl)) (@Zy _ _ _ _ _ _ _ _ _ _ g_written hr.m rfl (Zg (pv 0) (Zg (@Zm _ _ _ _ _ _ _ Zt (@Zy _ _ _ _ _ _ _ _ _ _ g_member_of hr.m rfl (Zg (pv 3) (Zg (@Zm _ _ _ _ _ _ _ Zt (pv 2) Zq (fun _ _=>rfl)) Zx rfl) rfl) (by decide) rfl rfl) Zq (fun _ _=>rfl)) (Zg (@Zm _ _ _ _ _ _ _ Zt (pv 2) Zq (fun _ _=>rfl)) Zx rfl) rfl) rfl) (by decide) rfl rfl)) rfl (by trivial)) (@Zb _ _ _ (@Zp _ _ _ _ (@Zu _ _ _ _ _ (Zg Zc (Zg (@Zm _ _ _ _ _ _ _ Zt (pv 2) Zq (fun _ _=>rfl)) (Zg (pv 6) Zx rfl) rfl) rfl))))) Za) (@Zb _ _ _ (@Zp _ _ _ _ (@Zu _ _ _ _ _ (Zg (pv 4) (Zg (pv 2) Zx rfl) rfl))))))))))), ?_⟩
 obtain ⟨sh,es,hw⟩:=hw.out
 refine ⟨_,rfl,_,rfl,e,S,ms,x,sh,rfl,mk,es,fun sv isv=>?_⟩
 have isv0:=isv
 cases sh with
 | whole lo hi =>
  obtain ⟨pu,rfl⟩:=hw
  obtain ⟨a,ws,rfl,ha,at'⟩:=isv
  obtain ⟨w1,w2,w3,rfl,i1,i2,i3⟩:=are3 at'
  cases (show w1=.str "whole" from i1)
  refine ⟨_,rfl,a,_,_,_,rfl,rfl,ha,at0, ?_⟩
  refine ⟨_,rfl,rfl,_,rfl,Z5 (by decide +kernel) ?_⟩
  refine ⟨_,rfl,rfl,_,rfl,Z5 (by decide +kernel) ?_⟩
  refine ⟨_,rfl,rfl,_,rfl,Z5 (by decide +kernel) ?_⟩
  refine ⟨_,rfl,rfl,_,rfl,Z5 (by decide +kernel) ?_⟩
  refine ⟨_,rfl,rfl,_,rfl,Z5 (by decide +kernel) ?_⟩
  refine ⟨_,rfl,_,rfl,(sz 2),fun e2 h2=>?_⟩
  have s2:=Zv.lay (o:=.tup [.str "whole",v]) h2
  exact q _ _ ⟨e2,_,rfl,Z6.of Zz,_,_,rfl,rfl,_,_,rfl,Zd.up s2.upT _ _ iu,rfl⟩ (Go.of tb s2)
 | truth =>
  obtain ⟨b,rfl,rfl⟩:=hw
  cases (show v=.bl b from iu)
  obtain ⟨a,ws,rfl,ha,at'⟩:=isv
  obtain ⟨w1,rfl,i1⟩:=are1 at'
  cases (show w1=.str "truth" from i1)
  refine ⟨_,rfl,a,_,_,_,rfl,rfl,ha,at0, ?_⟩
  refine ⟨_,rfl,rfl,_,rfl,Yh (by decide +kernel) ?_⟩
  refine ⟨_,rfl,.inr ⟨b,rfl,(sz 2),fun e2 h2=>?_⟩⟩
  have s2:=Zv.lay (o:=.tup [.str "whole",.int (if b=true then 1 else 0)]) h2
  exact q _ _ ⟨e2,_,rfl,Z6.of Zz,_,_,rfl,rfl,_,_,rfl,rfl,rfl⟩ (Go.of tb s2)
 | text k =>
  obtain ⟨pu,rfl⟩:=hw
  obtain ⟨a,ws,rfl,ha,at'⟩:=isv
  obtain ⟨w1,w2,rfl,i1,i2⟩:=are2 at'
  cases (show w1=.str "text" from i1)
  refine ⟨_,rfl,a,_,_,_,rfl,rfl,ha,at0, ?_⟩
  refine ⟨_,rfl,rfl,_,rfl,Z5 (by decide +kernel) ?_⟩
  refine ⟨_,rfl,rfl,_,rfl,Z5 (by decide +kernel) ?_⟩
  refine ⟨_,rfl,rfl,_,rfl,Z5 (by decide +kernel) ?_⟩
  refine ⟨_,rfl,rfl,_,rfl,Z5 (by decide +kernel) ?_⟩
  refine ⟨_,rfl,rfl,_,rfl,Z5 (by decide +kernel) ?_⟩
  refine ⟨_,rfl,_,rfl,(sz 2),fun e2 h2=>?_⟩
  have s2:=Zv.lay (o:=.tup [.str "text",v]) h2
  exact q _ _ ⟨e2,_,rfl,Z6.of Zz,_,_,rfl,rfl,_,_,rfl,Zd.up s2.upT _ _ iu,rfl⟩ (Go.of tb s2)
 | row b y nn =>
  obtain ⟨a,ws,rfl,ha,at'⟩:=isv
  obtain ⟨w1,w2,w3,rfl,i1,i2,i3⟩:=are3 at'
  cases (show w2=.str y from i2)
  cases b with
  | true =>
   obtain ⟨l,l3,hl,rfl,rfl⟩:=hw
   cases (show w1=.str "row" from i1)
   obtain ⟨pa,xs,rfl,hpa,axs⟩:=iu
   refine ⟨_,rfl,a,_,_,_,rfl,rfl,ha,at0, ?_⟩
   refine ⟨_,rfl,rfl,_,rfl,Z5 (by decide +kernel) ?_⟩
   refine ⟨_,rfl,rfl,_,rfl,Yh (by decide +kernel) ?_⟩
   refine ⟨_,rfl,_,rfl,pa,rfl,⟨_,hpa⟩,fun D fp sx hD=>?_⟩
   refine compG_tup (K:=K) (H:=H) (xs:=xs) (ts:=l.map Kuw.u) (rs:=l.map Kuw.w) (fun _ H5=>Go (TW tp) H H5) (fun σ=>∃ o,σ=[o,some (.ref e),some (.ref a)]) (fun i H5 g=>(g.upT tb).tup _ _ hpa) axs (by rw [List.length_map,List.length_map]) (by rw [List.length_map]; omega) (fun i H5 g=>g.upT tb) (fun i H5 ys zs g h=>g.put hD h) (Go.of tb (Zv.lay hD)) ⟨_,rfl⟩ ?_ ?_ ?_
   ·rintro i t r v σ H5 Q5 et er ⟨o,rfl⟩ g5 it ⟨ys,hy⟩ q5
    rw [List.getElem?_map] at et er
    obtain ⟨en,ee,rfl⟩:=Option.map_eq_some_iff.mp et
    rw [ee] at er
    cases er
    have u5:=g5.upT (K:=K) tb
    refine ⟨rfl, ?_⟩
    refine ⟨_,rfl,_,rfl,a,_,_,_,rfl,rfl,u5.tup _ _ ha,Va,_,rfl,e,S,ms,y,en.u,en.w,v,rfl,mk.up u5,mo,(hl en (List.mem_of_getElem? ee)).2,it,g5.tb,fun v' H6 iv g6=>?_⟩
    exact q5 v' _ H6 ⟨_,rfl⟩ (g5.trans g6) (g6.upT g5.tb) (fun o ho=>by rw [hy] at ho; cases ho; exact g6.lst g5.tb hy) iv
   ·intro v σ H5 A B h
    show (if true=true then A (σ.set 0 (some v)) H5 else B (σ.set 0 (some v)) H5)
    exact Yh rfl h.2
   ·rintro H6 ws σ _ g6 h6 a6
    refine ⟨D,_,rfl,.inl ⟨Z0.of h6,fun e1 h1=>⟨(sz 2),fun e2 h2=>?_⟩⟩⟩
    have s1:=Zv.lay (o:=.tup ws) h1
    have s2:=Zv.lay (o:=.tup [.str "row",.ref e1]) h2
    exact q _ _ ⟨e2,_,rfl,Z6.of Zz,_,_,rfl,rfl,_,_,rfl,⟨e1,ws,rfl,s2.up _ _ (Z6.of Zz),Zw.up (s1.trans s2).upT _ _ a6⟩,rfl⟩ (g6.same (s1.trans s2))
  | false =>
   obtain ⟨l,l3,hl,rfl,rfl⟩:=hw
   cases (show w1=.str "map" from i1)
   obtain ⟨pa,xs,rfl,hpa,axs⟩:=iu
   refine ⟨_,rfl,a,_,_,_,rfl,rfl,ha,at0, ?_⟩
   refine ⟨_,rfl,rfl,_,rfl,Z5 (by decide +kernel) ?_⟩
   refine ⟨_,rfl,rfl,_,rfl,Z5 (by decide +kernel) ?_⟩
   refine ⟨_,rfl,rfl,_,rfl,Yh (by decide +kernel) ?_⟩
   refine ⟨_,rfl,_,rfl,pa,rfl,⟨_,hpa⟩,fun D fp sx hD=>?_⟩
   refine compG_tup (K:=K) (H:=H) (xs:=xs) (ts:=l.map fun e=>.tup [.str e.k,e.u]) (rs:=l.map fun e=>.tup [.str e.k,e.w]) (fun _ H5=>Go (TW tp) H H5) (fun σ=>∃ o1 o2,σ=[o1,o2,some (.ref e),some (.ref a)]) (fun i H5 g=>(g.upT tb).tup _ _ hpa) axs (by rw [List.length_map,List.length_map]) (by rw [List.length_map]; omega) (fun i H5 g=>g.upT tb) (fun i H5 ys zs g h=>g.put hD h) (Go.of tb (Zv.lay hD)) ⟨_,_,rfl⟩ ?_ ?_ ?_
   ·rintro i t r v σ H5 Q5 et er ⟨o1,o2,rfl⟩ g5 it ⟨ys,hy⟩ q5
    rw [List.getElem?_map] at et er
    obtain ⟨en,ee,rfl⟩:=Option.map_eq_some_iff.mp et
    rw [ee] at er
    cases er
    obtain ⟨pb,zs,rfl,hpb,azs⟩:=it
    obtain ⟨z1,z2,rfl,k1,k2⟩:=are2 azs
    cases (show z1=.str en.k from k1)
    have u5:=g5.upT (K:=K) tb
    refine ⟨pb,_,rfl,hpb,rfl,_,_,rfl,_,_,rfl,rfl,rfl, ?_⟩
    refine ⟨_,rfl,_,rfl,_,rfl,a,_,_,_,rfl,rfl,u5.tup _ _ ha,Va,_,rfl,e,S,ms,y,en.u,en.w,z2,rfl,mk.up u5,mo,(hl en (List.mem_of_getElem? ee)).2,k2,g5.tb,fun v' H6 iv g6=>⟨(sz 2),fun e2 h2=>?_⟩⟩
    have s2:=Zv.lay (o:=.tup [.str en.k,v']) h2
    exact q5 _ _ _ ⟨_,_,rfl⟩ ((g5.trans g6).same s2) ((g6.upT g5.tb).trans s2.upT) (fun o ho=>by rw [hy] at ho; cases ho; exact s2 _ _ (g6.lst g5.tb hy)) ⟨e2,_,rfl,Z6.of Zz,_,_,rfl,rfl,_,_,rfl,Zd.up s2.upT _ _ iv,rfl⟩
   ·intro v σ H5 A B h
    obtain ⟨a1,x1,e1,e2,e3,y1,r1,e4,y2,r2,e5,e6,_,h⟩:=h
    exact ⟨a1,x1,e1,e2,e3,y1,r1,e4,y2,r2,e5,e6,(show (if true=true then A ((σ.set 0 (some y1)).set 1 (some y2)) H5 else B ((σ.set 0 (some y1)).set 1 (some y2)) H5) from Yh rfl h)⟩
   ·rintro H6 ws σ _ g6 h6 a6
    refine ⟨D,_,rfl,.inl ⟨Z0.of h6,fun e1 h1=>⟨(sz 2),fun e2 h2=>?_⟩⟩⟩
    have s1:=Zv.lay (o:=.tup ws) h1
    have s2:=Zv.lay (o:=.tup [.str "map",.ref e1]) h2
    exact q _ _ ⟨e2,_,rfl,Z6.of Zz,_,_,rfl,rfl,_,_,rfl,⟨e1,ws,rfl,s2.up _ _ (Z6.of Zz),Zw.up (s1.trans s2).upT _ _ a6⟩,rfl⟩ (g6.same (s1.trans s2))
 | cho fs us o =>
  obtain ⟨a,ws,rfl,ha,at'⟩:=isv
  obtain ⟨w1,w2,w3,w4,rfl,i1,i2,i3,i4⟩:=are4 at'
  cases (show w1=.str "choice" from i1)
  refine ⟨_,rfl,a,_,_,_,rfl,rfl,ha,at0, ?_⟩
  refine ⟨_,rfl,rfl,_,rfl,Z5 (by decide +kernel) ?_⟩
  refine ⟨_,rfl,rfl,_,rfl,Z5 (by decide +kernel) ?_⟩
  refine ⟨_,rfl,rfl,_,rfl,Z5 (by decide +kernel) ?_⟩
  refine ⟨_,rfl,rfl,_,rfl,Z5 (by decide +kernel) ?_⟩
  refine ⟨_,rfl,rfl,_,rfl,Yh (by decide +kernel) ?_⟩
  have pr:Vg ms fs:=(mo.ok x _ es).1
  rcases hw with ⟨g,mg',u',w',hw',rfl,rfl⟩ | ⟨_,nn,it,nk,n0,n1,gi,rfl,rfl⟩
  ·obtain ⟨pa,xs,rfl,hpa,axs⟩:=iu
   obtain ⟨z1,z2,z3,rfl,k1,k2,k3⟩:=are3 axs
   cases (show z1=.str "arm" from k1)
   cases (show z2=.int g.n from k2)
   refine ⟨_,rfl,pa,_,_,_,rfl,rfl,hpa,at0,rfl,_,rfl,Z5 (by decide +kernel) ?_⟩
   refine ⟨_,rfl,_,rfl,_,rfl,pa,_,_,_,rfl,rfl,hpa,Va,_,fs,us,o,g,rfl,isv0, ?_,mg',pr.len,fun v' iv'=>?_⟩
   ·exact List.Nodup.sublist pr.nums (by decide)
   obtain ⟨pg,gs,rfl,hpg,ags⟩:=iv'
   obtain ⟨y1,y2,y3,rfl,m1,m2,m3⟩:=are3 ags
   cases (show y3=.str g.y from m3)
   refine ⟨pg,_,_,_,rfl,rfl,hpg,at2,_,rfl,pa,_,_,_,rfl,rfl,hpa,at2,e,S,ms,g.y,u',w',z3,rfl,mk,mo,hw',k3,tb,fun v' H6 iv g6=>?_⟩
   refine ⟨_,rfl,pa,_,_,_,rfl,rfl,(g6.upT (K:=K) tb).tup _ _ hpa,Va,_,rfl,(sz 3),fun e2 h2=>?_⟩
   have s2:=Zv.lay (o:=.tup [.str "arm",.int g.n,v']) h2
   exact q _ _ ⟨e2,_,rfl,Z6.of Zz,_,_,rfl,rfl,_,_,rfl,rfl,_,_,rfl,Zd.up s2.upT _ _ iv,rfl⟩ (g6.same s2)
  ·obtain ⟨pa,xs,rfl,hpa,axs⟩:=iu
   obtain ⟨z1,z2,z3,rfl,k1,k2,k3⟩:=are3 axs
   cases (show z1=.str "other" from k1)
   cases (show z2=.int nn from k2)
   refine ⟨_,rfl,pa,_,_,_,rfl,rfl,hpa,at0,rfl,_,rfl,Yh (by decide +kernel) ?_⟩
   refine ⟨_,rfl,pa,_,_,_,rfl,rfl,hpa,at2, ?_⟩
   refine ⟨_,rfl,pa,_,_,_,rfl,rfl,hpa,Va,_,rfl,(sz 3),fun e2 h2=>?_⟩
   have s2:=Zv.lay (o:=.tup [.str "arm",.int nn,z3]) h2
   exact q _ _ ⟨e2,_,rfl,Z6.of Zz,_,_,rfl,rfl,_,_,rfl,rfl,_,_,rfl,Zd.up s2.upT _ _ k3,rfl⟩ (Go.of tb s2)
 | rcd fs us =>
  obtain ⟨l,os,ps,rfl,hl,ho,rfl,hp,sp,rfl⟩:=hw
  have pr:Vg ms (l.map Ent.f):=mo.ok x _ es
  have l5:l.length<=5:=by have:=pr.len; rw [List.length_map] at this; exact this
  have kn:=keys_nd ho (List.Nodup.sublist pr.nums (by decide))
  obtain ⟨a,ws,rfl,ha,at'⟩:=isv
  obtain ⟨w1,w2,w3,rfl,i1,i2,i3⟩:=are3 at'
  cases (show w1=.str "record" from i1)
  obtain ⟨fa,fws,rfl,hfa,afs⟩:=i2
  obtain ⟨pa,xs,rfl,hpa,axs⟩:=iu
  obtain ⟨z1,z2,rfl,k1,k2⟩:=are2 axs
  obtain ⟨ka,kx,rfl,hka,akx⟩:=k1
  obtain ⟨oa,ox,rfl,hoa,aox⟩:=k2
  refine ⟨_,rfl,a,_,_,_,rfl,rfl,ha,at0, ?_⟩
  refine ⟨_,rfl,rfl,_,rfl,Z5 (by decide +kernel) ?_⟩
  refine ⟨_,rfl,rfl,_,rfl,Z5 (by decide +kernel) ?_⟩
  refine ⟨_,rfl,rfl,_,rfl,Z5 (by decide +kernel) ?_⟩
  refine ⟨_,rfl,rfl,_,rfl,Yh (by decide +kernel) ?_⟩
  refine ⟨_,rfl,_,rfl,a,_,_,_,rfl,rfl,ha,Va,_,rfl,pa,_,_,_,rfl,rfl,hpa,at0,fa,ka,fws,kx,rfl,hfa,hka,fun L as H1 nL s1 hL ap=>?_⟩
  refine ⟨e,S,L,ms,l,as.map V.ref,rfl,mk.up s1.upT,mo,hL,ents_of ap (Zw.up s1.upT _ _ afs) (Zw.up s1.upT _ _ akx),l5,fun t mt=>⟨hl t mt,wr_nq mo (hl t mt),fun d ed=>?_⟩,tb.same s1,fun D ws' H2 hD nD aw g2=>?_⟩
  ·obtain ⟨s,_,pv⟩:=pr.d t.f (List.mem_map_of_mem mt) d ed
   exact pv_nq pv
  have g2':=(Go.of tb s1).trans g2
  have u2:=g2'.upT (K:=K) tb
  refine ⟨_,rfl,pa,_,_,_,rfl,rfl,u2.tup _ _ hpa,Va,oa,ox,rfl,.inr (u2.tup _ _ hoa),fun L2 h2=>?_⟩
  have s3:=Zv.lay (o:=.lst ox) h2
  have kl:=kept_len l
  have lw:ws'.length+ox.length<=11:=by
   rw [<-aw.length, <-aox.length,List.length_map,List.length_map]
   have:=ho.len
   omega
  refine ⟨D,L2,ws',ox,rfl,rfl,s3 _ _ hD,Zz,Nat.le_trans lw (by decide),fun p hp4=>?_⟩
  have s4:=Zv.lay (o:=.lst (ws'++ox)) hp4
  have g4:=g2'.same (s3.trans s4)
  have aL:Zw K (Z3 (Z3 H2 L2 (.lst ox)) p (.lst (ws'++ox))) ((kept l++os).map prT) (ws'++ox):=by
   rw [List.map_append]
   exact Zw.append (Zw.up (s3.trans s4).upT _ _ aw) (Zw.up (u2.trans (s3.trans s4).upT) _ _ aox)
  obtain ⟨pt,hP,tok⟩:=g4.tb
  refine ⟨_,rfl,p,ws'++ox,(kept l++os).map (fun p:Int × Th=>p.1),pt,rfl,Z0.of Zz, ?_,hP,tok,keyd_of aL,fun D2 pt' qs H5 sm hP2 tok2 nD2 hD2 perm srt=>?_⟩
  ·rw [List.length_append]; omega
  have g45:Go (TW tp) _ H5:=⟨sm,pt',hP2,tok2⟩
  have g5:=g4.trans g45
  have u5:Vc K _ H5:=g45.upT g4.tb
  have a5:=sorted_are (Zw.up u5 _ _ aL) perm srt hp sp kn
  refine ⟨D2,_,rfl,.inl ⟨Z0.of hD2,fun e1 h1=>⟨(sz 2),fun e2 h2=>?_⟩⟩⟩
  have s6:=Zv.lay (o:=.tup (qs.map (·.2))) h1
  have s7:=Zv.lay (o:=.tup [.str "rec",.ref e1]) h2
  exact q _ _ ⟨e2,_,rfl,Z6.of Zz,_,_,rfl,rfl,_,_,rfl,⟨e1,_,rfl,s7.up _ _ (Z6.of Zz),Zw.up (s6.trans s7).upT _ _ a5⟩,rfl⟩ (g5.same (s6.trans s7))
end
abbrev s_law_item:Stmt:=top 19
abbrev N_law_item:List Str:=["_law_feed_here","_law_deep","_law_way","_law_some"]
theorem sc_law_item:Yk N_law_item ["_law_feed_here","_law_deep"] (Zf s_law_item):=by trivial
def IB:Nat->Nat
 | 0=>2
 | k+1=>3 * IB k+3
def IC:Nat->Nat
 | 0=>171
 | k+1=>2 * IC k+300
theorem IB_le:∀ k,2<=IB k
 | 0=>Nat.le_refl _
 | k+1=>by show 2<=3 * IB k+3; omega
theorem IC_le:∀ k,171<=IC k
 | 0=>Nat.le_refl _
 | k+1=>by show 171<=2 * IC k+300; omega
def spIt (K:W.Frag) (k:Nat):Sp:=fun vs H Q _=>∃ (l:Addr) (r:Nat),vs=[.ref l,.int (k:Int)]/\Fd (r+IB k) H l/\∀ v u H',Zd K H' u v->Gd (IC k) (3 * k+1) u->Y5 l r H H'->Q v H'
def spIt' (K:W.Frag):Nat->Sp
 | 0=>fun _ _ _ _=>False
 | k+1=>spIt K k
def ITI:List Int:=[0,1, -1,7,(10:Int) ^ (18:Int).toNat, -((10:Int) ^ (18:Int).toNat)]
theorem iti_ok:∀ x∈ITI, -ALL<=x/\x<=ALL:=by decide
def ITS:List Str:=["","a","~ 1"]
theorem its_gd:∀ x∈ITS,Gd 82 0 (.str x):=fun x m=>by
 have h:∀ x∈ITS,(x.cps.toList.all fun z=>decide (z<127))=true/\x.length<=8:=by decide +kernel
 exact gd_wd (h x m).1 (h x m).2
def ITN:List Str:=["a","ab","b"]
theorem itn_gd:∀ x∈ITN,Gd 82 0 (.str x):=fun x m=>by
 have h:∀ x∈ITN,(x.cps.toList.all fun z=>decide (z<127))=true/\x.length<=8:=by decide +kernel
 exact gd_wd (h x m).1 (h x m).2
def ITR:List Int:=[1,10,999]
theorem itr_gd:∀ x∈ITR,Gd 25 0 (.int x):=fun x m=>by
 have h:∀ x∈ITR,0<=x/\x<=1000:=by decide
 exact small_gd (h x m).1 (h x m).2
def ITA:List Int:=[1,4,999]
theorem ita_gd:∀ x∈ITA,Gd 25 0 (.int x):=fun x m=>by
 have h:∀ x∈ITA,0<=x/\x<=1000:=by decide
 exact small_gd (h x m).1 (h x m).2
theorem are_at {K:W.Frag} {H:Hp}:∀ {ts:List Th} {vs:List V} {i:Nat} {t:Th},Zw K H ts vs->ts[i]?=some t->∃ v,vs[i]?=some v/\Zd K H t v:=fun {ts vs i t} h e=>by
 have hi:=(List.getElem?_eq_some_iff.mp e).1
 have l:=h.length
 obtain ⟨v,ev⟩:∃ v,vs[i]?=some v:=⟨_,List.getElem?_eq_getElem (by omega)⟩
 obtain ⟨t',et,it⟩:=h.got ev
 rw [e] at et
 cases et
 exact ⟨v,ev,it⟩
theorem zw_mem {t:Th}:∀ {as bs:List Th},t∈List.zipWith (fun a b=>Th.tup [a,b]) as bs->∃ a∈as,∃ b∈bs,t=.tup [a,b]
 | [],_,h=>absurd h (by simp)
 | _::_,[],h=>absurd h (by simp)
 | a::as,b::bs,h=>by
  rw [List.zipWith_cons_cons] at h
  rcases List.mem_cons.mp h with h | h
  ·exact ⟨a,List.mem_cons_self,b,List.mem_cons_self,h⟩
  ·obtain ⟨x,mx,y,my,e⟩:=zw_mem h
   exact ⟨x,List.mem_cons_of_mem _ mx,y,List.mem_cons_of_mem _ my,e⟩
section
variable {P:Program} {w:World} {K:W.Frag} {mg:Str->Option Value} {base:Heap} {f:Addr} {fd:FuncData}
theorem ok_item {k n:Nat} (F:Fun K "_law_item" "_law_item" s_law_item f fd) (m:Bn mg) (g_law_draw:Fn P w K mg base 1 "_law_draw" ["_law_feed_here","_law_many"] spDraw) (g_law_item:Fn P w K mg base (n+1) "_law_item" ["_law_feed_here","_law_deep"] (spIt' K k)):Y4 P w K mg base CX0 (n+2) f fd ["_law_feed_here","_law_deep"] (spIt K k):=by
 refine F.ok sc_law_item (fun vs H Q E h=>?_) (fun cdv A outer s H vs Q E hr h=>?_)
 ·obtain ⟨l,r,rfl,_⟩:=h
  rfl
 obtain ⟨l,r,rfl,fe,q⟩:=h
 refine ⟨_,(@Zj _ _ _ _ _ (@Zo _ 2 _ _ _ _ _ sc_law_item.nd rfl (by trivial) (@Zy _ _ _ _ _ _ _ _ _ _ g_law_draw hr.m rfl (Zg (pv 0) (Zg Zq Zx rfl) rfl) (by decide) rfl rfl) rfl (by trivial)) (@Zj _ _ _ _ _ (@Yz _ _ _ _ _ _ _ _ (@PW.pt _ _ _ (@pw_or _ _ _ _ _ _ _ (@Zl _ _ _ _ _ _ _ _ Yf (pv 2) Zq (Zh _)) (@pw_or1 _ _ _ _ (@Zl _ _ _ _ _ _ _ _ Yf (pv 1) Zq (Zh _))))) (@Zb _ _ _ (@Zp _ _ _ _ (@Zu _ _ _ _ _ (Zg Zc (Zg (@Zm _ _ _ _ _ _ _ Z1 (@Z7 _ _ _ _ (Zg Zq (Zg Zq (Zg (@pe_un _ _ _ _ _ _ un_neg Zq) (Zg Zq (Zg (@Yx _ _ _ _ _ _ _ _ op_pow Zq Zq) (Zg (@pe_un _ _ _ _ _ _ un_neg (@Yx _ _ _ _ _ _ _ _ op_pow Zq Zq)) Zx rfl) rfl) rfl) rfl) rfl) rfl)) (@Zy _ _ _ _ _ _ _ _ _ _ g_law_draw hr.m rfl (Zg (pv 0) (Zg Zq Zx rfl) rfl) (by decide) rfl rfl) (fun _ _=>rfl)) Zx rfl) rfl)))) Za) (@Zj _ _ _ _ _ (@Yz _ _ _ _ _ _ _ _ (@Zl _ _ _ _ _ _ _ _ Yf (pv 2) Zq (Zh _)) (@Zb _ _ _ (@Zp _ _ _ _ (@Zu _ _ _ _ _ (Zg Zc (Zg (@Zm _ _ _ _ _ _ _ Z1 (@Z7 _ _ _ _ (Zg Zc (Zg Zc (Zg Zc Zx rfl) rfl) rfl)) (@Zy _ _ _ _ _ _ _ _ _ _ g_law_draw hr.m rfl (Zg (pv 0) (Zg Zq Zx rfl) rfl) (by decide) rfl rfl) (fun _ _=>rfl)) Zx rfl) rfl)))) Za) (@Zj _ _ _ _ _ (@Zo _ 3 _ _ _ _ _ sc_law_item.nd rfl (by trivial) (@Yw _ N_law_item (Zf s_law_item) ["_law_k","_law_feed_here","_law_deep"] [none,some 0,some 1] _ _ _ _ _ _ _ _ _ _ rfl (@pi_range1 _ _ _ _ _ _ rfl m.range (Zg (@Zy _ _ _ _ _ _ _ _ _ _ g_law_draw hr.m rfl (Zg (pv 0) (Zg Zq Zx rfl) rfl) (by decide) rfl rfl) Zx rfl) (by trivial)) ⟨rfl,rfl,by decide +kernel,by decide +kernel⟩ (fun _ _ _=>(@Zn _ 0 _ _ (show List.Nodup (["_law_k","_law_feed_here","_law_deep"]:List Str) from by decide +kernel) rfl (Or.inl rfl) (by trivial))) (fun _ _ _=>Yn) (fun _ _ _=>(@Zy _ _ _ _ _ _ _ _ _ _ g_law_item hr.m rfl (Zg (pv 1) (Zg (@Yx _ _ _ _ _ _ _ _ op_sub (pv 2) Zq) Zx rfl) rfl) (by decide) rfl rfl)) (by trivial)) rfl (by trivial)) (@Zj _ _ _ _ _ (@Yz _ _ _ _ _ _ _ _ (@Zl _ _ _ _ _ _ _ _ Yf (pv 2) Zq (Zh _)) (@Zb _ _ _ (@Zp _ _ _ _ (@Zu _ _ _ _ _ (Zg Zc (Zg (@Ze _ _ _ _ _ _ _ _ _ Zi rfl m.tuple Ya (Zg (pv 3) Zx rfl) (by trivial) (by trivial) (by trivial) (by trivial)) Zx rfl) rfl)))) Za) (@Zj _ _ _ _ _ (@Yz _ _ _ _ _ _ _ _ (@Zl _ _ _ _ _ _ _ _ Yf (pv 2) Zq (Zh _)) (@Zb _ _ _ (@Zp _ _ _ _ (@Zu _ _ _ _ _ (Zg Zc (Zg (@Ze _ _ _ _ _ _ _ _ _ Zi rfl m.tuple Ya (Zg (@Yw _ N_law_item (Zf s_law_item) ["_law_k","_law_some"] [none,some 3] _ _ _ _ _ _ _ _ _ _ rfl (@pi_range1 _ _ _ _ _ _ rfl m.range (Zg (@Yy _ _ _ _ _ _ _ _ _ Yl rfl m.len b_len (Zg (pv 3) Zx rfl) (by decide) (by decide) rfl rfl) Zx rfl) (by trivial)) ⟨rfl,rfl,by decide +kernel,by decide +kernel⟩ (fun _ _ _=>(@Zn _ 0 _ _ (show List.Nodup (["_law_k","_law_some"]:List Str) from by decide +kernel) rfl (Or.inl rfl) (by trivial))) (fun _ _ _=>Yn) (fun _ _ _=>(@Zu _ _ _ _ _ (Zg (@Zm _ _ _ _ _ _ _ Z1 (@Z7 _ _ _ _ (Zg Zc (Zg Zc (Zg Zc Zx rfl) rfl) rfl)) (pv 0) (fun _ _=>rfl)) (Zg (@Zm _ _ _ _ _ _ _ Z1 (pv 1) (pv 0) (fun _ _=>rfl)) Zx rfl) rfl))) (by trivial)) Zx rfl) (by trivial) (by trivial) (by trivial) (by trivial)) Zx rfl) rfl)))) Za) (@Zj _ _ _ _ _ (@Yz _ _ _ _ _ _ _ _ (@Zl _ _ _ _ _ _ _ _ Yf (pv 2) Zq (Zh _)) (@Zb _ _ _ (@Zp _ _ _ _ (@Zu _ _ _ _ _ (Zg Zc (Zg (@Ze _ _ _ _ _ _ _ _ _ Zi rfl m.tuple Ya (Zg (@Yw _ N_law_item (Zf s_law_item) ["_law_k","_law_some"] [none,some 3] _ _ _ _ _ _ _ _ _ _ rfl (@pi_range1 _ _ _ _ _ _ rfl m.range (Zg (@Yy _ _ _ _ _ _ _ _ _ Yl rfl m.len b_len (Zg (pv 3) Zx rfl) (by decide) (by decide) rfl rfl) Zx rfl) (by trivial)) ⟨rfl,rfl,by decide +kernel,by decide +kernel⟩ (fun _ _ _=>(@Zn _ 0 _ _ (show List.Nodup (["_law_k","_law_some"]:List Str) from by decide +kernel) rfl (Or.inl rfl) (by trivial))) (fun _ _ _=>Yn) (fun _ _ _=>(@Zu _ _ _ _ _ (Zg (@Zm _ _ _ _ _ _ _ Z1 (@Z7 _ _ _ _ (@pa_ints _ _ [1,10,999] rfl)) (pv 0) (fun _ _=>rfl)) (Zg (@Zm _ _ _ _ _ _ _ Z1 (pv 1) (pv 0) (fun _ _=>rfl)) Zx rfl) rfl))) (by trivial)) Zx rfl) (by trivial) (by trivial) (by trivial) (by trivial)) Zx rfl) rfl)))) Za) (@Zb _ _ _ (@Zp _ _ _ _ (@Zu _ _ _ _ _ (Zg Zc (Zg (@Zm _ _ _ _ _ _ _ Z1 (@Z7 _ _ _ _ (@pa_ints _ _ [1,4,999] rfl)) (@Zy _ _ _ _ _ _ _ _ _ _ g_law_draw hr.m rfl (Zg (pv 0) (Zg Zq Zx rfl) rfl) (by decide) rfl rfl) (fun _ _=>rfl)) (Zg (@Zy _ _ _ _ _ _ _ _ _ _ g_law_item hr.m rfl (Zg (pv 0) (Zg (@Yx _ _ _ _ _ _ _ _ op_sub (pv 1) Zq) Zx rfl) rfl) (by decide) rfl rfl) Zx rfl) rfl) rfl))))))))))), ?_⟩
 have pw:CPow 10 18:=⟨by decide,by decide,by decide⟩
 obtain ⟨c,hc⟩:∃ c,IB k=c+2:=⟨IB k - 2,by have:=IB_le k; omega⟩
 have leaf:∀ {c':Nat} {t:Th} {x:Str},Gd c' 0 t->c'<=82->(x.cps.toList.all fun z=>decide (z<127))=true->x.length<=8->Gd (IC k) (3 * k+1) (.tup [.str x,t]):=fun {c' t x} g h a b=>(gd2 (Vl a b) g).mono (by have:=IC_le k; omega) (by omega)
 refine ⟨_,rfl,l,6,r+c+1,rfl,(hc ▸ fe:Fd (r+(c+2)) H l),by decide,by decide,fun x H1 x0 x1 t1=>?_⟩
 refine ⟨_,rfl,rfl,_,rfl, ?_⟩
 refine V1 (fun c0=>Yh rfl ?_) (fun c0=>⟨_,rfl,rfl,_,rfl,V1 (fun c1=>?_) (fun c1=>?_)⟩)
 ·refine ⟨_,rfl,_,_,rfl,rfl,pw,_,_,rfl,rfl,pw,_,rfl,(sz 6),fun L hL=>?_⟩
  have s2:=Zv.lay (o:=.lst (ITI.map V.int)) hL
  have t2:=t1.same s2
  refine ⟨_,rfl,l,6,r+c,rfl,t2.feed,by decide,by decide,fun y H3 y0 y1 t3=>?_⟩
  obtain ⟨i,mi,ei⟩:=pickI ITI y0 y1
  refine ⟨L,_,_,_,rfl,rfl,Z0.of (t3.keep _ _ (t1.feed.ne hL) Zz),ei,(sz 2),fun e he=>?_⟩
  have b:=iti_ok i mi
  exact q _ (.tup [.str "whole",.int i]) _ ⟨e,_,rfl,Z6.of Zz,_,_,rfl,rfl,_,_,rfl,rfl,rfl⟩ (leaf (gd_int b.1 b.2) (by decide) (by decide +kernel) (by decide +kernel)) (((t2.trans t3).lay he).mono (by omega))
 ·refine ⟨_,rfl,_,_,rfl,rfl,pw,_,_,rfl,rfl,pw,_,rfl,(sz 6),fun L hL=>?_⟩
  have s2:=Zv.lay (o:=.lst (ITI.map V.int)) hL
  have t2:=t1.same s2
  refine ⟨_,rfl,l,6,r+c,rfl,t2.feed,by decide,by decide,fun y H3 y0 y1 t3=>?_⟩
  obtain ⟨i,mi,ei⟩:=pickI ITI y0 y1
  refine ⟨L,_,_,_,rfl,rfl,Z0.of (t3.keep _ _ (t1.feed.ne hL) Zz),ei,(sz 2),fun e he=>?_⟩
  have b:=iti_ok i mi
  exact q _ (.tup [.str "whole",.int i]) _ ⟨e,_,rfl,Z6.of Zz,_,_,rfl,rfl,_,_,rfl,rfl,rfl⟩ (leaf (gd_int b.1 b.2) (by decide) (by decide +kernel) (by decide +kernel)) (((t2.trans t3).lay he).mono (by omega))
 refine ⟨_,rfl,rfl,_,rfl, ?_⟩
 refine V1 (fun c2=>?_) (fun c2=>?_)
 ·refine ⟨(sz 3),fun L hL=>?_⟩
  have s2:=Zv.lay (o:=.lst (ITS.map V.str)) hL
  have t2:=t1.same s2
  refine ⟨_,rfl,l,3,r+c,rfl,t2.feed,by decide,by decide,fun y H3 y0 y1 t3=>?_⟩
  obtain ⟨i,mi,ei⟩:=pickS ITS y0 y1
  refine ⟨L,_,_,_,rfl,rfl,Z0.of (t3.keep _ _ (t1.feed.ne hL) Zz),ei,(sz 2),fun e he=>?_⟩
  exact q _ (.tup [.str "text",.str i]) _ ⟨e,_,rfl,Z6.of Zz,_,_,rfl,rfl,_,_,rfl,rfl,rfl⟩ (leaf (its_gd i mi) (by decide) (by decide +kernel) (by decide +kernel)) (((t2.trans t3).lay he).mono (by omega))
 cases k with
 | zero=>exact absurd (decide_eq_true rfl) c1
 | succ k' =>
  have hc:3 * IB k'+3=c+2:=hc
  refine ⟨_,rfl,l,3,r+c,rfl,t1.feed,by decide,by decide,fun many H2 m0 m3 t2=>⟨many,rfl,by omega,by omega,fun D fp sx hD=>?_⟩⟩
  have t12:=t1.trans t2
  have nD:=t12.feed.ne hD
  have hD0:=t12.free hD
  refine comp_range (n:=many.toNat) (fun i ys σ H5=>∃ us:List Th,(∃ o,σ=[o,some (.ref l),some (.int ((k'+1:Nat):Int))])/\(∀ u∈us,Gd (IC k') (3 * k'+1) u)/\us.length=i/\Zw K H5 us ys/\Y5 l (r+1+IB k'+(2 - i) * IB k') H H5/\H5 D=some (.lst ys))
   ⟨[],⟨_,rfl⟩,fun u mu=>absurd mu List.not_mem_nil,rfl,rfl,(t12.put hD0 (fe.far hD0)).mono (by omega),Zz⟩ ?_ ?_ ?_
  ·rintro i ys σ H5 hi ⟨us,_,_,_,_,_,h5⟩
   exact h5
  ·rintro i ys σ H5 hi ⟨us,⟨o,rfl⟩,gu,lu,ae,t5,h5⟩
   have eb:(2 - i) * IB k'=(2 - (i+1)) * IB k'+IB k':=by rw [show 2 - i=(2 - (i+1))+1 by omega,Nat.add_mul,Nat.one_mul]
   refine Vk ?_
   refine ⟨_,rfl,_,rfl,_,_,rfl,rfl,l,r+1+IB k'+(2 - (i+1)) * IB k', ?_,t5.feed.mono (by omega),fun v u H6 iv gv t6=>?_⟩
   ·show [V.ref l,V.int (((k'+1:Nat):Int) - 1)]=_
    rw [show ((k'+1:Nat):Int) - 1=(k':Int) by omega]
   have h6:=t6.keep _ _ nD h5
   have uS:Vc K H6 (Z3 H6 D (.lst (ys++[v]))):=Yv h6
   refine ⟨h6, ?_,us++[u],⟨_,rfl⟩, ?_, ?_,Zw.append (Zw.up ((t6.upT t5.feed).trans uS) _ _ ae) (Zw.one (Zd.up uS _ _ iv)),(t5.trans t6).put hD0 (fe.far hD0),Zz⟩
   ·rw [<-ae.length]; exact Yq (by omega)
   ·intro z mz
    rcases List.mem_append.mp mz with mz | mz
    ·exact gu z mz
    ·rw [List.mem_singleton.mp mz]; exact gv
   ·rw [List.length_append,List.length_singleton]; omega
  ·rintro ys σ H5 ⟨us,⟨o,rfl⟩,gu,lu,ae,t5,h5⟩
   have ly:=ae.length
   have l2:us.length<=2:=by omega
   have t5:=t5.mono (r':=r+1+IB k') (by omega)
   refine ⟨_,rfl,rfl,_,rfl, ?_⟩
   refine V1 (fun c3=>?_) (fun c3=>?_)
   ·refine ⟨_,rfl,D,ys,rfl,.inl ⟨Z0.of h5,fun p1 hp1=>⟨(sz 2),fun p hp=>?_⟩⟩⟩
    have s8:=Zv.lay (o:=.tup ys) hp1
    have s9:=Zv.lay (o:=.tup [.str "row",.ref p1]) hp
    refine q _ (.tup [.str "row",.tup us]) _ ⟨p,_,rfl,Z6.of Zz,_,_,rfl,rfl,_,_,rfl,⟨p1,ys,rfl,s9.up _ _ (Z6.of Zz),Zw.up (s8.trans s9).upT _ _ ae⟩,rfl⟩ ?_ ((t5.same (s8.trans s9)).mono (by omega))
    exact (gd2 (Vl (by decide +kernel) (by decide +kernel)) (gd_tup (n:=2) gu l2)).mono (by show _<=2 * IC k'+300; omega) (by omega)
   ·refine ⟨_,rfl,rfl,_,rfl, ?_⟩
    refine V1 (fun c4=>?_) (fun c4=>?_)
    ·refine ⟨_,rfl,D,_,rfl,.inl (Z0.of h5),(ys.length:Int),rfl,by omega,by omega,fun D2 fp2 sx2 hD2=>?_⟩
     have nD2:D2≠D:=fun z=>by rw [z,h5] at hD2; cases hD2
     refine comp_range (n:=((ys.length:Nat):Int).toNat) (fun i zs σ H7=>(∃ o',σ=[o',some (.ref D)])/\Zw K H7 ((List.zipWith (fun a b=>Th.tup [a,b]) (ITN.map Th.str) us).take i) zs/\Zv H5 H7/\H7 D2=some (.lst zs)) ⟨⟨_,rfl⟩,rfl,(Zv.refl H5).put hD2,Zz⟩ ?_ ?_ ?_
     ·rintro i zs σ H7 hi ⟨_,_,_,h7⟩
      exact h7
     ·rintro i zs σ H7 hi ⟨⟨o',rfl⟩,az,s7,h7⟩
      have hi2:i<us.length:=by omega
      have hi3:i<ITN.length:=by show i<3; omega
      refine Vk ?_
      refine ⟨(sz 3),fun L hL=>?_⟩
      have sL:=Zv.lay (o:=.lst (ITN.map V.str)) hL
      obtain ⟨nm,mn,en⟩:∃ nm,ITN[i]?=some nm/\atI (ITN.map V.str) (0+(i:Int))=some (V.str nm):=⟨ITN[i],List.getElem?_eq_getElem hi3,by rw [Int.zero_add]; exact Y8 (by rw [List.getElem?_map,List.getElem?_eq_getElem hi3]; rfl)⟩
      obtain ⟨u,eu⟩:∃ u,us[i]?=some u:=⟨_,List.getElem?_eq_getElem hi2⟩
      obtain ⟨vv,ev,iv⟩:=are_at ae eu
      have evI:atI ys (0+(i:Int))=some vv:=by rw [Int.zero_add]; exact Y8 ev
      refine ⟨_,rfl,L,_,_,_,rfl,rfl,Z0.of Zz,en,_,rfl,_,rfl,D,_,_,_,rfl,rfl,Z0.of (sL _ _ (s7 _ _ h5)),evI,(sz 2),fun e2 h2=>?_⟩
      have sE:=Zv.lay (o:=.tup [V.str nm,vv]) h2
      have h8:=(sL.trans sE) _ _ h7
      have uS:Vc K _ (Z3 _ D2 (.lst (zs++[.ref e2]))):=Yv h8
      have ez:(List.zipWith (fun a b=>Th.tup [a,b]) (ITN.map Th.str) us)[i]?=some (.tup [Th.str nm,u]):=by
       rw [List.getElem?_zipWith,List.getElem?_map,mn,eu]; rfl
      refine ⟨h8, ?_,⟨_,rfl⟩, ?_,(s7.trans (sL.trans sE)).put hD2,Zz⟩
      ·rw [<-az.length,List.length_take]; exact Yq (by rw [List.length_zipWith]; omega)
      ·rw [Zr ez]
       exact Zw.append (Zw.up ((sL.trans sE).upT.trans uS) _ _ az) (Zw.one (Zd.up uS _ _ ⟨e2,_,rfl,Z6.of Zz,_,_,rfl,rfl,_,_,rfl,Zd.up (s7.trans (sL.trans sE)).upT _ _ iv,rfl⟩))
     ·rintro zs σ H7 ⟨_,az,s7,h7⟩
      have lz:(List.zipWith (fun a b=>Th.tup [a,b]) (ITN.map Th.str) us).length<=((ys.length:Nat):Int).toNat:=by
       rw [List.length_zipWith]; omega
      rw [List.take_of_length_le lz] at az
      refine ⟨D2,zs,rfl,.inl ⟨Z0.of h7,fun p1 hp1=>⟨(sz 2),fun p hp=>?_⟩⟩⟩
      have s8:=Zv.lay (o:=.tup zs) hp1
      have s9:=Zv.lay (o:=.tup [.str "map",.ref p1]) hp
      refine q _ (.tup [.str "map",.tup (List.zipWith (fun a b=>Th.tup [a,b]) (ITN.map Th.str) us)]) _ ⟨p,_,rfl,Z6.of Zz,_,_,rfl,rfl,_,_,rfl,⟨p1,zs,rfl,s9.up _ _ (Z6.of Zz),Zw.up (s8.trans s9).upT _ _ az⟩,rfl⟩ ?_ (((t5.same s7).same (s8.trans s9)).mono (by omega))
      refine (gd2 (Vl (by decide +kernel) (by decide +kernel)) (gd_tup (c:=82+IC k'+7) (n:=2) (d:=3 * k'+1+1) (fun t mt=>?_) (by rw [List.length_zipWith]; omega))).mono (by show _<=2 * IC k'+300; omega) (by omega)
      obtain ⟨a,ma,b,mb,rfl⟩:=zw_mem mt
      obtain ⟨nm,mn,rfl⟩:=List.mem_map.mp ma
      exact (gd2 ((itn_gd nm mn).mono (Nat.le_refl _) (Nat.zero_le _)) (gu _ mb)).mono (by omega) (Nat.le_refl _)
    ·refine ⟨_,rfl,rfl,_,rfl, ?_⟩
     refine V1 (fun c5=>?_) (fun c5=>?_)
     ·refine ⟨_,rfl,D,_,rfl,.inl (Z0.of h5),(ys.length:Int),rfl,by omega,by omega,fun D2 fp2 sx2 hD2=>?_⟩
      have nD2:D2≠D:=fun z=>by rw [z,h5] at hD2; cases hD2
      refine comp_range (n:=((ys.length:Nat):Int).toNat) (fun i zs σ H7=>(∃ o',σ=[o',some (.ref D)])/\Zw K H7 ((List.zipWith (fun a b=>Th.tup [a,b]) (ITR.map Th.int) us).take i) zs/\Zv H5 H7/\H7 D2=some (.lst zs)) ⟨⟨_,rfl⟩,rfl,(Zv.refl H5).put hD2,Zz⟩ ?_ ?_ ?_
      ·rintro i zs σ H7 hi ⟨_,_,_,h7⟩
       exact h7
      ·rintro i zs σ H7 hi ⟨⟨o',rfl⟩,az,s7,h7⟩
       have hi2:i<us.length:=by omega
       have hi3:i<ITR.length:=by show i<3; omega
       refine Vk ?_
       refine ⟨(sz 3),fun L hL=>?_⟩
       have sL:=Zv.lay (o:=.lst (ITR.map V.int)) hL
       obtain ⟨nm,mn,en⟩:∃ nm,ITR[i]?=some nm/\atI (ITR.map V.int) (0+(i:Int))=some (V.int nm):=⟨ITR[i],List.getElem?_eq_getElem hi3,by rw [Int.zero_add]; exact Y8 (by rw [List.getElem?_map,List.getElem?_eq_getElem hi3]; rfl)⟩
       obtain ⟨u,eu⟩:∃ u,us[i]?=some u:=⟨_,List.getElem?_eq_getElem hi2⟩
       obtain ⟨vv,ev,iv⟩:=are_at ae eu
       have evI:atI ys (0+(i:Int))=some vv:=by rw [Int.zero_add]; exact Y8 ev
       refine ⟨_,rfl,L,_,_,_,rfl,rfl,Z0.of Zz,en,_,rfl,_,rfl,D,_,_,_,rfl,rfl,Z0.of (sL _ _ (s7 _ _ h5)),evI,(sz 2),fun e2 h2=>?_⟩
       have sE:=Zv.lay (o:=.tup [V.int nm,vv]) h2
       have h8:=(sL.trans sE) _ _ h7
       have uS:Vc K _ (Z3 _ D2 (.lst (zs++[.ref e2]))):=Yv h8
       have ez:(List.zipWith (fun a b=>Th.tup [a,b]) (ITR.map Th.int) us)[i]?=some (.tup [Th.int nm,u]):=by
        rw [List.getElem?_zipWith,List.getElem?_map,mn,eu]; rfl
       refine ⟨h8, ?_,⟨_,rfl⟩, ?_,(s7.trans (sL.trans sE)).put hD2,Zz⟩
       ·rw [<-az.length,List.length_take]; exact Yq (by rw [List.length_zipWith]; omega)
       ·rw [Zr ez]
        exact Zw.append (Zw.up ((sL.trans sE).upT.trans uS) _ _ az) (Zw.one (Zd.up uS _ _ ⟨e2,_,rfl,Z6.of Zz,_,_,rfl,rfl,_,_,rfl,Zd.up (s7.trans (sL.trans sE)).upT _ _ iv,rfl⟩))
      ·rintro zs σ H7 ⟨_,az,s7,h7⟩
       have lz:(List.zipWith (fun a b=>Th.tup [a,b]) (ITR.map Th.int) us).length<=((ys.length:Nat):Int).toNat:=by
        rw [List.length_zipWith]; omega
       rw [List.take_of_length_le lz] at az
       refine ⟨D2,zs,rfl,.inl ⟨Z0.of h7,fun p1 hp1=>⟨(sz 2),fun p hp=>?_⟩⟩⟩
       have s8:=Zv.lay (o:=.tup zs) hp1
       have s9:=Zv.lay (o:=.tup [.str "rec",.ref p1]) hp
       refine q _ (.tup [.str "rec",.tup (List.zipWith (fun a b=>Th.tup [a,b]) (ITR.map Th.int) us)]) _ ⟨p,_,rfl,Z6.of Zz,_,_,rfl,rfl,_,_,rfl,⟨p1,zs,rfl,s9.up _ _ (Z6.of Zz),Zw.up (s8.trans s9).upT _ _ az⟩,rfl⟩ ?_ (((t5.same s7).same (s8.trans s9)).mono (by omega))
       refine (gd2 (Vl (by decide +kernel) (by decide +kernel)) (gd_tup (c:=82+IC k'+7) (n:=2) (d:=3 * k'+1+1) (fun t mt=>?_) (by rw [List.length_zipWith]; omega))).mono (by show _<=2 * IC k'+300; omega) (by omega)
       obtain ⟨a,ma,b,mb,rfl⟩:=zw_mem mt
       obtain ⟨nm,mn,rfl⟩:=List.mem_map.mp ma
       exact (gd2 ((itr_gd nm mn).mono (Nat.le_refl _) (Nat.zero_le _)) (gu _ mb)).mono (by omega) (Nat.le_refl _)
     ·refine ⟨(sz 3),fun L hL=>?_⟩
      have sL:=Zv.lay (o:=.lst (ITA.map V.int)) hL
      have t6:=t5.same sL
      refine ⟨_,rfl,l,3,r+IB k',rfl,t6.feed.mono (by omega),by decide,by decide,fun y H7 y0 y1 t7=>?_⟩
      obtain ⟨n',mi,ei⟩:=pickI ITA y0 y1
      refine ⟨L,_,_,_,rfl,rfl,Z0.of (t7.keep _ _ (t5.feed.ne hL) Zz),ei, ?_⟩
      refine ⟨_,rfl,_,rfl,_,_,rfl,rfl,l,r, ?_,t7.feed,fun v u H8 iv gv t8=>⟨(sz 3),fun p hp=>?_⟩⟩
      ·show [V.ref l,V.int (((k'+1:Nat):Int) - 1)]=_
       rw [show ((k'+1:Nat):Int) - 1=(k':Int) by omega]
      have s9:=Zv.lay (o:=.tup [.str "arm",.int n',v]) hp
      refine q _ (.tup [.str "arm",.int n',u]) _ ⟨p,_,rfl,Z6.of Zz,_,_,rfl,rfl,_,_,rfl,rfl,_,_,rfl,Zd.up s9.upT _ _ iv,rfl⟩ ?_ (((t6.trans t7).trans t8).same s9)
      exact (gd3 (Vl (by decide +kernel) (by decide +kernel)) ((ita_gd n' mi).mono (Nat.le_refl _) (Nat.zero_le _)) gv).mono (by show _<=2 * IC k'+300; omega) (by omega)
end
abbrev Y2:Stmt:=top 21
abbrev Vt:List Str:=["_law_make_here","_law_name","_law_value_here","_law_shape","_law_inner","_law_parts_here","_law_field","_law_one"]
theorem Ye:Yk Vt ["_law_make_here","_law_name","_law_value_here"] (Zf Y2):=by trivial
def Vo (K:PySem.W.Frag) (W:List (Str × Yr)->Str->Th->Th->Prop):Sp:=fun vs H Q _=>∃ (e S:Addr) (ms:List (Str × Yr)) (x:Str) (u w:Th) (v:V),vs=[.ref e,.str x,v]/\MkAt K H e S ms/\MkOk ms/\W ms x u w/\Zd K H u v/\∀ v' H',Zd K H' w v'->Zv H H'->Q v' H'
theorem tt_len (x:Str) (xs:List Str):3<=(tupleText (x::xs)).length:=by
 cases xs with
 | nil =>
  have:(tupleText [x]).length=1+x.length+2:=by
   show ((Str.ofString "(" ++ x)++Str.ofString ",)").length=_
   rw [strLen_append,strLen_append]; rfl
  omega
 | cons y ys =>
  have:=piled_le_tupleText (x::y::ys)
  rw [piled_cons,piled_cons] at this
  omega
theorem alike {W:Str->Th->Th->Prop} {own:Bool} {s:Yr} {d u w:Th} (p:Pv s d) (h:VW W own s u w):rpD (thD u)=rpD (thD d) ↔ eqD (thD d) (thD u)=true:=by
 cases s with
 | whole lo hi =>
  obtain ⟨q,_⟩:=h
  cases d with
  | int i =>
   cases u with
   | int j =>
    show Str.ofString (toString j)=Str.ofString (toString i) ↔ (i == j)=true
    constructor
    ·intro z; rw [int_inj z]; exact beq_self_eq_true i
    ·intro z; rw [eq_of_beq z]
   | _=>exact q.elim
  | _=>exact p.elim
 | truth =>
  obtain ⟨b,rfl,_⟩:=h
  cases d with
  | bl b'=>cases b <;> cases b' <;> decide +kernel
  | _=>exact p.elim
 | text k =>
  obtain ⟨q,_⟩:=h
  cases d with
  | str i =>
   cases u with
   | str j =>
    show reprText j=reprText i ↔ (i == j)=true
    constructor
    ·intro z; rw [str_inj q p z]; exact beq_self_eq_true i
    ·intro z; rw [eq_of_beq z]
   | _=>exact q.elim
  | _=>exact p.elim
 | row b y k =>
  have hd:d=.tup []:=by
   cases d with
   | tup ts =>
    cases ts with
    | nil=>rfl
    | cons _ _=>exact p.elim
   | _=>exact p.elim
  subst hd
  obtain ⟨us,rfl⟩:∃ us,u=.tup us:=by
   cases b with
   | true=>obtain ⟨l,_,_,e,_⟩:=h; exact ⟨_,e⟩
   | false=>obtain ⟨l,_,_,e,_⟩:=h; exact ⟨_,e⟩
  cases us with
  | nil=>exact ⟨fun _=>rfl,fun _=>rfl⟩
  | cons x xs =>
   constructor
   ·intro z
    have z:tupleText (rpD (thD x)::rpDs (Vv xs))=tupleText []:=z
    have:=tt_len (rpD (thD x)) (rpDs (Vv xs))
    rw [z] at this
    exact absurd this (by decide +kernel)
   ·intro z; cases z
 | rcd _ _=>cases d <;> exact p.elim
 | cho _ _ _=>cases d <;> exact p.elim
theorem shown_lfo {own:Bool} {ms:List (Str × Yr)} {fs:List Vm} (pr:Vg ms fs) {n:Nat} {t:Ent} (mf:t.f∈fs) (h:Wr' own ms n t.f.y t.u t.w):rpD (.tup (Vv [t.u]))=rpD (.tup (Vv t.f.d.toList)) ↔ lfo t=true:=by
 unfold lfo
 cases ed:t.f.d with
 | none =>
  constructor
  ·intro z
   have z:tupleText [rpD (thD t.u)]=tupleText []:=z
   have:=tt_len (rpD (thD t.u)) []
   rw [z] at this
   exact absurd this (by decide +kernel)
  ·intro z; cases z
 | some d =>
  obtain ⟨s,es,pv⟩:=pr.d t.f mf d ed
  obtain ⟨n',rfl⟩:∃ n',n=n'+1:=by
   cases n with
   | zero=>exact False.elim h
   | succ n'=>exact ⟨n',rfl⟩
  obtain ⟨s',es',hv⟩:=Wr.out (n:=n') h
  rw [es] at es'
  cases es'
  have a:=alike pv hv
  constructor
  ·intro z
   have z:tupleText [rpD (thD t.u)]=tupleText [rpD (thD d)]:=z
   exact a.mp (one_inj z)
  ·intro z
   show tupleText [rpD (thD t.u)]=tupleText [rpD (thD d)]
   rw [a.mpr z]
def DR (K:W.Frag) (H:Hp) (q:Yt × V) (p:Int × Th):Prop:=q.1=.inl p.1/\Zd K H p.2 q.2
theorem dr_keys {K:W.Frag} {H:Hp}:∀ {kvs:List (Yt × V)} {l:List (Int × Th)},Paired (DR K H) kvs l->kvs.map (·.1)=(l.map (·.1)).map Sum.inl
 | _,_,.nil=>rfl
 | _,_,.cons r t=>by rw [List.map_cons,List.map_cons,List.map_cons,r.1,dr_keys t]
theorem dr_snoc {K:W.Frag} {H:Hp} {kvs:List (Yt × V)} {l:List (Int × Th)} (h:Paired (DR K H) kvs l) {n:Int} {t:Th} {v:V} (i:Zd K H t v):Paired (DR K H) (kvs++[(.inl n,v)]) (l++[(n,t)]):=by
 induction h with
 | nil=>exact .cons ⟨rfl,i⟩ .nil
 | cons r t ih=>exact .cons r ih
theorem dr_none {K:W.Frag} {H:Hp} {n:Int}:∀ {kvs:List (Yt × V)} {l:List (Int × Th)},Paired (DR K H) kvs l->n ∉ l.map (·.1)->valV kvs (.inl n)=none
 | _,_,.nil,_=>rfl
 | (k,v)::_,p::_,.cons r t,h=>by
  have e:¬ ((k,v):Yt × V).1=Sum.inl n:=fun z=>h (by
   have rk:k=.inl p.1:=r.1
   rw [show ((k,v):Yt × V).1=k from rfl,rk] at z
   rw [<-Sum.inl.inj z]; exact List.mem_cons_self)
  rw [valV_neg e]
  exact dr_none t fun m=>h (List.mem_cons_of_mem _ m)
theorem dr_get {K:W.Frag} {H:Hp} {p:Int × Th}:∀ {kvs:List (Yt × V)} {l:List (Int × Th)},Paired (DR K H) kvs l->(l.map (·.1)).Nodup->p∈l->∃ v,valV kvs (.inl p.1)=some v/\Zd K H p.2 v
 | _,_,.nil,_,h=>absurd h List.not_mem_nil
 | (k,v)::_,q::_,.cons r t,nd,h=>by
  have rk:k=.inl q.1:=r.1
  subst rk
  rw [List.map_cons,List.nodup_cons] at nd
  by_cases z:q.1=p.1
  ·have:q=p:=by
    rcases List.mem_cons.mp h with h | h
    ·exact h.symm
    ·exact absurd (by rw [z]; exact List.mem_map_of_mem h) nd.1
   subst this
   exact ⟨v,valV_pos rfl,r.2⟩
  ·have e:¬ ((Sum.inl q.1,v):Yt × V).1=Sum.inl p.1:=fun y=>z (Sum.inl.inj y)
   rw [valV_neg e]
   rcases List.mem_cons.mp h with h | h
   ·exact absurd (by rw [h]) z
   ·exact dr_get t nd.2 h
theorem fold_dr {K:W.Frag} {H:Hp}:∀ {kvs:List (Yt × V)} {l:List (Int × Th)} {a:List (Yt × V)} {b:List (Int × Th)},Paired (DR K H) kvs l->Paired (DR K H) a b->((b++l).map (·.1)).Nodup->Paired (DR K H) (kvs.foldl (fun acc kv=>putK acc kv.1 kv.2) a) (b++l)
 | _,_,a,b,.nil,h,_=>by rw [List.append_nil]; exact h
 | (k,v)::kvs,p::l,a,b,.cons r t,h,nd=>by
  have rk:k=.inl p.1:=r.1
  subst rk
  have nn:p.1 ∉ b.map (·.1):=fun m=>by
   rw [List.map_append,List.map_cons] at nd
   exact (List.nodup_append.mp nd).2.2 _ m _ List.mem_cons_self rfl
  have e:b++p::l=(b++[p])++l:=by rw [List.append_assoc]; rfl
  rw [List.foldl_cons,putK_new v (dr_none h nn),e]
  rw [e] at nd
  exact fold_dr t (dr_snoc h r.2) nd
theorem dr_of {K:W.Frag} {H:Hp}:∀ {l:List (Int × Th)} {ys:List V},Zw K H (l.map prT) ys->∃ kvs:List (Yt × V),Paired (DR K H) kvs l/\ys.length=kvs.length/\∀ (j:Nat) (k:Yt) (v:V),kvs[j]?=some (k,v)->∃ p,ys[j]?=some (.ref p)/\Z6 K H p [kV k,v]
 | [],ys,h=>by
  cases (show ys=[] from h)
  exact ⟨[],.nil,rfl,fun j k v e=>by simp at e⟩
 | p::l,ys,h=>by
  obtain ⟨v,r,rfl,i,a⟩:=h
  obtain ⟨kvs,pd,ln,at'⟩:=dr_of a
  obtain ⟨b,zs,rfl,hb,az⟩:=i
  obtain ⟨z1,z2,rfl,k1,k2⟩:=are2 az
  cases (show z1=.int p.1 from k1)
  refine ⟨(.inl p.1,z2)::kvs,.cons ⟨rfl,k2⟩ pd,by simp [ln],fun j k v e=>?_⟩
  cases j with
  | zero =>
   simp only [List.getElem?_cons_zero,Option.some.injEq,Prod.mk.injEq] at e
   obtain ⟨rfl,rfl⟩:=e
   exact ⟨b,rfl,hb⟩
  | succ j =>
   simp only [List.getElem?_cons_succ] at e ⊢
   exact at' j k v e
theorem DR.upO {K:W.Frag} {H H':Hp} {kvs:List (Yt × V)} {l:List (Int × Th)} (h:Paired (DR K H) kvs l) (u:UpO K H H'):Paired (DR K H') kvs l:=Paired.mapP h fun _ _ z=>⟨z.1,isTh_upO u _ _ z.2⟩
theorem ints_uniq {a b l:List Int} (pa:a.Perm l) (pb:b.Perm l) (sa:a.Pairwise (·<=·)) (sb:b.Pairwise (·<=·)):a=b :=
 List.Perm.eq_of_pairwise (fun x y _ _ h1 h2=>Int.le_antisymm h1 h2) sa sb (pa.trans pb.symm)
theorem wr_gd' {own:Bool} {ms:List (Str × Yr)} (mo:MkOk ms):∀ {n:Nat} {x:Str} {u w:Th},Wr' own ms n x u w->Gd (CW n) (9+3 * n) u
 | 0,_,_,_,h=>False.elim h
 | n+1,_,_,_,h=>(Wr.gd mo (n:=n) h).1.mono (Nat.le_refl _) (by omega)
theorem pv_gd {s:Yr} {d:Th} (h:Pv s d):Gd 2002 1 d:=by
 cases s with
 | whole lo hi =>
  cases d with
  | int i=>exact (gd_int h.1 h.2).mono (by decide) (by decide)
  | _=>exact h.elim
 | truth =>
  cases d with
  | bl b=>exact (gd_bl b).mono (by decide) (by decide)
  | _=>exact h.elim
 | text k =>
  cases d with
  | str z=>exact (gd_tx h).mono (by decide) (by decide)
  | _=>exact h.elim
 | row b y k =>
  cases d with
  | tup ts =>
   cases ts with
   | nil=>exact (gd_tup (c:=0) (d:=0) (n:=0) (ts:=[]) (fun t m=>absurd m List.not_mem_nil) (Nat.le_refl _)).mono (by decide) (by decide)
   | cons _ _=>exact h.elim
  | _=>exact h.elim
 | rcd _ _=>cases d <;> exact h.elim
 | cho _ _ _=>cases d <;> exact h.elim
theorem opt_gd {ms:List (Str × Yr)} {fs:List Vm} (pr:Vg ms fs) {f:Vm} (mf:f∈fs):Gd 2010 2 (.tup f.d.toList):=by
 have:∀ t∈f.d.toList,Gd 2002 1 t:=fun t m=>by
  cases ed:f.d with
  | none=>rw [ed] at m; exact absurd m List.not_mem_nil
  | some d =>
   rw [ed] at m
   rw [List.mem_singleton.mp m]
   exact (pr.d f mf d ed).elim fun s z=>pv_gd z.2
 exact (gd_tup (n:=1) this (by cases f.d with
  | none=>exact Nat.zero_le _
  | some _=>exact Nat.le_refl _)).mono (by decide) (by decide)
theorem nd_atI {cs:List Int} {i:Nat} {n:Int} (nd:cs.Nodup) (en:cs[i]?=some n):n ∉ cs.take i:=fun z=>by
 have h:=nd.sublist (List.take_sublist (i+1) cs)
 rw [Zr en] at h
 exact (List.nodup_append.mp h).2.2 n z n List.mem_cons_self rfl
theorem filt_none {nb:Int}:∀ {fs:List Vm},nb ∉ fs.map Vm.n->(fs.filter fun f=>decide (f.n=nb))=[]
 | [],_=>rfl
 | f::fs,h=>by
  rw [List.map_cons] at h
  have h1:¬ f.n=nb:=fun z=>h (by rw [z]; exact List.mem_cons_self)
  rw [List.filter_cons,if_neg (by simpa using h1)]
  exact filt_none fun m=>h (List.mem_cons_of_mem _ m)
theorem filt_one {g:Vm}:∀ {fs:List Vm},(fs.map Vm.n).Nodup->g∈fs->(fs.filter fun f=>decide (f.n=g.n))=[g]
 | [],_,m=>absurd m List.not_mem_nil
 | f::fs,nd,m=>by
  rw [List.map_cons,List.nodup_cons] at nd
  rcases List.mem_cons.mp m with rfl | m
  ·rw [List.filter_cons,if_pos (by simp),filt_none nd.1]
  ·have h1:¬ f.n=g.n:=fun z=>nd.1 (by rw [z]; exact List.mem_map_of_mem m)
   rw [List.filter_cons,if_neg (by simpa using h1)]
   exact filt_one nd.2 m
section
variable {P:Program} {w:World} {K:W.Frag} {mg:Str->Option Value} {base:Heap} {f:Addr} {fd:FuncData}
theorem ok_item_of {k n:Nat} (hn:n<=3) {own:Bool} (F:Fun K "_law_item_of" "_law_item_of" Y2 f fd) (m:Bn mg) (g_law_item_of:Fn P w K mg base k "_law_item_of" ["_law_make_here","_law_name","_law_value_here"] (Vo K fun ms=>Wr' own ms n)):Y4 P w K mg base CX0 (k+1) f fd ["_law_make_here","_law_name","_law_value_here"] (Vo K fun ms=>Wr own ms n):=by
 refine F.ok Ye (fun vs H Q E h=>?_) (fun cdv A outer s H vs Q E hr h=>?_)
 ·obtain ⟨e,S,ms,x,u,w,v,rfl,_⟩:=h
  rfl
 obtain ⟨e,S,ms,x,u,wt,v,rfl,mk,mo,hw,iu,q⟩:=h
 refine ⟨_,(@Zj _ _ _ _ _ (@Zo _ 3 _ _ _ _ _ Ye.nd rfl (by trivial) (@pe_dget _ _ _ _ _ _ (hu_of hr) (@Zm _ _ _ _ _ _ _ Zt (pv 0) Zq (fun _ _=>rfl)) (pv 1) (fun _ _=>rfl)) rfl (by trivial)) (@Zj _ _ _ _ _ (@Yz _ _ _ _ _ _ _ _ (@Zl _ _ _ _ _ _ _ _ op_in_seq (@Zm _ _ _ _ _ _ _ Zt (pv 3) Zq (fun _ _=>rfl)) (@Zu _ _ _ _ _ (Zg Zc (Zg Zc Zx rfl) rfl)) rfl) (@Zb _ _ _ (@Zp _ _ _ _ (@Zu _ _ _ _ _ (Zg Zc (Zg (@Ze _ _ _ _ _ _ _ _ _ call_int1 rfl m.int b_int (Zg (pv 2) Zx rfl) (by trivial) (by trivial) (by trivial) (by trivial)) Zx rfl) rfl)))) Za) (@Zj _ _ _ _ _ (@Yz _ _ _ _ _ _ _ _ (@Zl _ _ _ _ _ _ _ _ Yf (@Zm _ _ _ _ _ _ _ Zt (pv 3) Zq (fun _ _=>rfl)) Zc (Zh _)) (@Zb _ _ _ (@Zp _ _ _ _ (@Zu _ _ _ _ _ (Zg Zc (Zg (pv 2) Zx rfl) rfl)))) Za) (@Zj _ _ _ _ _ (@Yz _ _ _ _ _ _ _ _ (@Zl _ _ _ _ _ _ _ _ Yf (@Zm _ _ _ _ _ _ _ Zt (pv 3) Zq (fun _ _=>rfl)) Zc (Zh _)) (@Zb _ _ _ (@Zp _ _ _ _ (@Zu _ _ _ _ _ (Zg Zc (Zg (@Ze _ _ _ _ _ _ _ _ _ Zi rfl m.tuple Ya (Zg (@Yw _ Vt (Zf Y2) ["_law_one","_law_make_here","_law_shape"] [none,some 0,some 3] _ _ _ _ _ _ _ _ _ _ rfl (@V0 _ _ _ _ (pv 2)) ⟨rfl,rfl,by decide +kernel,by decide +kernel⟩ (fun _ _ _=>(@Zn _ 0 _ _ (show List.Nodup (["_law_one","_law_make_here","_law_shape"]:List Str) from by decide +kernel) rfl (Or.inl rfl) (by trivial))) (fun _ _ _=>Yn) (fun _ _ _=>(@Zy _ _ _ _ _ _ _ _ _ _ g_law_item_of hr.m rfl (Zg (pv 1) (Zg (@Zm _ _ _ _ _ _ _ Zt (pv 2) Zq (fun _ _=>rfl)) (Zg (pv 0) Zx rfl) rfl) rfl) (by decide) rfl rfl)) (by trivial)) Zx rfl) (by trivial) (by trivial) (by trivial) (by trivial)) Zx rfl) rfl)))) Za) (@Zj _ _ _ _ _ (@Yz _ _ _ _ _ _ _ _ (@Zl _ _ _ _ _ _ _ _ Yf (@Zm _ _ _ _ _ _ _ Zt (pv 3) Zq (fun _ _=>rfl)) Zc (Zh _)) (@Zb _ _ _ (@Zp _ _ _ _ (@Zu _ _ _ _ _ (Zg Zc (Zg (@Ze _ _ _ _ _ _ _ _ _ Zi rfl m.tuple Ya (Zg (@Yw _ Vt (Zf Y2) ["_law_key","_law_one","_law_make_here","_law_shape"] [none,none,some 0,some 3] _ _ _ _ _ _ _ _ _ _ rfl (@V0 _ _ _ _ (pv 2)) ⟨rfl,rfl,by decide +kernel,by decide +kernel⟩ (fun _ _ _=>(@pg_tup _ _ _ _ _ _ rfl (@Yj _ _ _ _ _ (@Zn _ 0 _ _ (show List.Nodup (["_law_key","_law_one","_law_make_here","_law_shape"]:List Str) from by decide +kernel) rfl (Or.inl rfl) (by trivial)) (@Yj _ _ _ _ _ (@Zn _ 1 _ _ (show List.Nodup (["_law_key","_law_one","_law_make_here","_law_shape"]:List Str) from by decide +kernel) rfl (Or.inl rfl) (by trivial)) pgs_nil (by trivial)) (by trivial)) (by trivial) (by trivial))) (fun _ _ _=>Yn) (fun _ _ _=>(@Zu _ _ _ _ _ (Zg (pv 0) (Zg (@Zy _ _ _ _ _ _ _ _ _ _ g_law_item_of hr.m rfl (Zg (pv 2) (Zg (@Zm _ _ _ _ _ _ _ Zt (pv 3) Zq (fun _ _=>rfl)) (Zg (pv 1) Zx rfl) rfl) rfl) (by decide) rfl rfl) Zx rfl) rfl))) (by trivial)) Zx rfl) (by trivial) (by trivial) (by trivial) (by trivial)) Zx rfl) rfl)))) Za) (@Zj _ _ _ _ _ (@Yz _ _ _ _ _ _ _ _ (@Zl _ _ _ _ _ _ _ _ Yf (@Zm _ _ _ _ _ _ _ Zt (pv 3) Zq (fun _ _=>rfl)) Zc (Zh _)) (@Zj _ _ _ _ _ (@Vy _ 4 Vt (Zf Y2) ["_law_arm","_law_value_here"] [none,some 2] _ _ _ _ _ _ _ _ _ _ _ _ _ Ye.nd rfl (by trivial) rfl (@V0 _ _ _ _ (@Zm _ _ _ _ _ _ _ Zt (pv 3) Zq (fun _ _=>rfl))) ⟨rfl,rfl,by decide +kernel,by decide +kernel⟩ (fun _ _ _=>(@Zn _ 0 _ _ (show List.Nodup (["_law_arm","_law_value_here"]:List Str) from by decide +kernel) rfl (Or.inl rfl) (by trivial))) (fun _ _ _=>(@pts_one _ _ _ (@Zl _ _ _ _ _ _ _ _ Yf (@Zm _ _ _ _ _ _ _ Zt (pv 0) Zq (fun _ _=>rfl)) (@Zm _ _ _ _ _ _ _ Zt (pv 1) Zq (fun _ _=>rfl)) (Zh _)))) (fun _ _ _=>(@Zm _ _ _ _ _ _ _ Zt (pv 0) Zq (fun _ _=>rfl))) (by trivial) (by trivial) (by trivial)) (@Zb _ _ _ (@Zp _ _ _ _ (@Zu _ _ _ _ _ (Zg Zc (Zg (@Zm _ _ _ _ _ _ _ Zt (pv 2) Zq (fun _ _=>rfl)) (Zg (@pe_ifExp _ _ _ _ _ _ _ _ (@Zl _ _ _ _ _ _ _ _ op_eqNil (pv 4) (@Z7 _ _ _ _ Zx) (Zh _)) (@Zm _ _ _ _ _ _ _ Zt (pv 2) Zq (fun _ _=>rfl)) (@Zy _ _ _ _ _ _ _ _ _ _ g_law_item_of hr.m rfl (Zg (pv 0) (Zg (@Zm _ _ _ _ _ _ _ Z1 (pv 4) Zq (fun _ _=>rfl)) (Zg (@Zm _ _ _ _ _ _ _ Zt (pv 2) Zq (fun _ _=>rfl)) Zx rfl) rfl) rfl) (by decide) rfl rfl)) Zx rfl) rfl) rfl))))) Za) (@Zj _ _ _ _ _ (@Zo _ 5 _ _ _ _ _ Ye.nd rfl (by trivial) (@Ze _ _ _ _ _ _ _ _ _ (call_dictPairs rfl) rfl m.dict b_dict (Zg (@Zm _ _ _ _ _ _ _ Zt (pv 2) Zq (fun _ _=>rfl)) Zx rfl) (by trivial) (by trivial) (by trivial) (by trivial)) rfl (by trivial)) (@Zj _ _ _ _ _ (@ps_for _ _ _ _ _ _ _ _ PassesOwn.never rfl (@pi_zipT _ _ _ _ _ _ _ _ _ rfl m.zip (Zg (@Zm _ _ _ _ _ _ _ Zt (pv 3) Zq (fun _ _=>rfl)) (Zg (@Zm _ _ _ _ _ _ _ Zt (pv 2) Zq (fun _ _=>rfl)) Zx rfl) rfl) (by trivial) (by trivial)) (@pg_tup _ _ _ _ _ _ rfl (@Yj _ _ _ _ _ (@Zn _ 6 _ _ Ye.nd rfl (by trivial) (by trivial)) (@Yj _ _ _ _ _ (@Zn _ 7 _ _ Ye.nd rfl (by trivial) (by trivial)) pgs_nil (by trivial)) (by trivial)) (by trivial) (by trivial)) (@Zb _ _ _ (@Yz _ _ _ _ _ _ _ _ (@Zl _ _ _ _ _ _ _ _ op_ne (@Yy _ _ _ _ _ _ _ _ _ (call_reprD hr) rfl m.repr b_repr (Zg (@Zu _ _ _ _ _ (Zg (pv 7) Zx rfl)) Zx rfl) (by decide) (by decide) rfl rfl) (@Yy _ _ _ _ _ _ _ _ _ (call_reprD hr) rfl m.repr b_repr (Zg (@Zm _ _ _ _ _ _ _ Zt (pv 6) Zq (fun _ _=>rfl)) Zx rfl) (by decide) (by decide) rfl rfl) (Zh _)) (@Zb _ _ _ (@ps_dput _ _ _ _ _ _ _ _ _ (hu_of hr) (pv 5) (@Zm _ _ _ _ _ _ _ Zt (pv 6) Zq (fun _ _=>rfl)) (@Zy _ _ _ _ _ _ _ _ _ _ g_law_item_of hr.m rfl (Zg (pv 0) (Zg (@Zm _ _ _ _ _ _ _ Zt (pv 6) Zq (fun _ _=>rfl)) (Zg (pv 7) Zx rfl) rfl) rfl) (by decide) rfl rfl) rfl)) Za)) (by trivial)) (@Zb _ _ _ (@Zp _ _ _ _ (@Zu _ _ _ _ _ (Zg Zc (Zg (@Ze _ _ _ _ _ _ _ _ _ Zi rfl m.tuple Ya (Zg (@Yw _ Vt (Zf Y2) ["_law_number","_law_parts_here"] [none,some 5] _ _ _ _ _ _ _ _ _ _ rfl (@Vj _ _ _ _ (@Yy _ _ _ _ _ _ _ _ _ (call_sortedD rfl) rfl m.sorted b_sorted (Zg (pv 5) Zx rfl) (by decide) (by decide) rfl rfl)) ⟨rfl,rfl,by decide +kernel,by decide +kernel⟩ (fun _ _ _=>(@Zn _ 0 _ _ (show List.Nodup (["_law_number","_law_parts_here"]:List Str) from by decide +kernel) rfl (Or.inl rfl) (by trivial))) (fun _ _ _=>Yn) (fun _ _ _=>(@Zu _ _ _ _ _ (Zg (pv 0) (Zg (@pe_dget _ _ _ _ _ _ (hu_of hr) (pv 1) (pv 0) (fun _ _=>rfl)) Zx rfl) rfl))) (by trivial)) Zx rfl) (by trivial) (by trivial) (by trivial) (by trivial)) Zx rfl) rfl)))))))))))), ?_⟩
 obtain ⟨sh,es,hw⟩:=hw.out
 obtain ⟨v0,he⟩:=mk.e
 obtain ⟨kvs,sv,hS,ev,isv⟩:=mk.get es
 refine ⟨_,rfl,e,_,_,_,rfl,rfl,he,Va,_,rfl,S,_,rfl,(show DGet H S (kV (.inr x)) (some sv) from ev ▸ rd_get hS (.inr x)), ?_⟩
 have isv0:=isv
 cases sh with
 | whole lo hi =>
  obtain ⟨pu,rfl⟩:=hw
  obtain ⟨a,ws,rfl,ha,at'⟩:=isv
  obtain ⟨w1,w2,w3,rfl,i1,i2,i3⟩:=are3 at'
  cases (show w1=.str "whole" from i1)
  refine ⟨_,rfl,a,_,_,_,rfl,rfl,ha,at0,(sz 2),fun e0 h0=>?_⟩
  have s0:=Zv.lay (o:=.tup [.str "whole",.str "truth"]) h0
  refine ⟨e0,_,rfl,.inr (Z6.of Zz),rfl,rfl,_,rfl,Yh (by decide +kernel) ?_⟩
  have ha:=s0.up _ _ ha
  have hpa':=s0.upT (K:=K)
  obtain ⟨i,rfl⟩:∃ i,u=.int i:=by
   cases u with
   | int i=>exact ⟨i,rfl⟩
   | _=>exact pu.elim
  cases (show v=.int i from iu)
  refine ⟨_,rfl,.inl ⟨i,rfl,(sz 2),fun e2 h2=>?_⟩⟩
  have s2:=Zv.lay (o:=.tup [.str "whole",.int i]) h2
  exact q _ _ ⟨e2,_,rfl,Z6.of Zz,_,_,rfl,rfl,_,_,rfl,rfl,rfl⟩ (s0.trans s2)
 | truth =>
  obtain ⟨b,rfl,rfl⟩:=hw
  cases (show v=.bl b from iu)
  obtain ⟨a,ws,rfl,ha,at'⟩:=isv
  obtain ⟨w1,rfl,i1⟩:=are1 at'
  cases (show w1=.str "truth" from i1)
  refine ⟨_,rfl,a,_,_,_,rfl,rfl,ha,at0,(sz 2),fun e0 h0=>?_⟩
  have s0:=Zv.lay (o:=.tup [.str "whole",.str "truth"]) h0
  refine ⟨e0,_,rfl,.inr (Z6.of Zz),rfl,rfl,_,rfl,Yh (by decide +kernel) ?_⟩
  have ha:=s0.up _ _ ha
  have hpa':=s0.upT (K:=K)
  refine ⟨_,rfl,.inr ⟨b,rfl,(sz 2),fun e2 h2=>?_⟩⟩
  have s2:=Zv.lay (o:=.tup [.str "whole",.int (if b=true then 1 else 0)]) h2
  exact q _ _ ⟨e2,_,rfl,Z6.of Zz,_,_,rfl,rfl,_,_,rfl,rfl,rfl⟩ (s0.trans s2)
 | text k =>
  obtain ⟨pu,rfl⟩:=hw
  obtain ⟨a,ws,rfl,ha,at'⟩:=isv
  obtain ⟨w1,w2,rfl,i1,i2⟩:=are2 at'
  cases (show w1=.str "text" from i1)
  refine ⟨_,rfl,a,_,_,_,rfl,rfl,ha,at0,(sz 2),fun e0 h0=>?_⟩
  have s0:=Zv.lay (o:=.tup [.str "whole",.str "truth"]) h0
  refine ⟨e0,_,rfl,.inr (Z6.of Zz),rfl,rfl,_,rfl,Z5 (by decide +kernel) ?_⟩
  have ha:=s0.up _ _ ha
  have hpa':=s0.upT (K:=K)
  refine ⟨_,rfl,a,_,_,_,rfl,rfl,ha,at0,rfl,_,rfl,Yh (by decide +kernel) ?_⟩
  refine ⟨_,rfl,(sz 2),fun e2 h2=>?_⟩
  have s2:=Zv.lay (o:=.tup [.str "text",v]) h2
  exact q _ _ ⟨e2,_,rfl,Z6.of Zz,_,_,rfl,rfl,_,_,rfl,Zd.up (s0.trans s2).upT _ _ iu,rfl⟩ (s0.trans s2)
 | row b y nn =>
  obtain ⟨a,ws,rfl,ha,at'⟩:=isv
  obtain ⟨w1,w2,w3,rfl,i1,i2,i3⟩:=are3 at'
  cases (show w2=.str y from i2)
  cases b with
  | true =>
   obtain ⟨l,l3,hl,rfl,rfl⟩:=hw
   cases (show w1=.str "row" from i1)
   obtain ⟨pa,xs,rfl,hpa,axs⟩:=iu
   refine ⟨_,rfl,a,_,_,_,rfl,rfl,ha,at0,(sz 2),fun e0 h0=>?_⟩
   have s0:=Zv.lay (o:=.tup [.str "whole",.str "truth"]) h0
   refine ⟨e0,_,rfl,.inr (Z6.of Zz),rfl,rfl,_,rfl,Z5 (by decide +kernel) ?_⟩
   have ha:=s0.up _ _ ha
   have hpa':=s0.upT (K:=K)
   refine ⟨_,rfl,a,_,_,_,rfl,rfl,ha,at0,rfl,_,rfl,Z5 (by decide +kernel) ?_⟩
   refine ⟨_,rfl,a,_,_,_,rfl,rfl,ha,at0,rfl,_,rfl,Yh (by decide +kernel) ?_⟩
   have mk:=mk.up hpa'
   have hpa:=hpa'.tup _ _ hpa
   have axs:=Zw.up hpa' _ _ axs
   refine ⟨_,rfl,pa,rfl,⟨_,hpa⟩,fun D fp sx hD=>?_⟩
   refine compG_tup (K:=K) (xs:=xs) (ts:=l.map Kuw.u) (rs:=l.map Kuw.w) (fun _ H5=>Zv _ H5) (fun σ=>∃ o,σ=[o,some (.ref e),some (.ref a)]) (fun i H5 g=>g.up _ _ hpa) axs (by rw [List.length_map,List.length_map]) (by rw [List.length_map]; omega) (fun i H5 g=>g.upT) (fun i H5 ys zs g h=>g.put hD) (Zv.lay hD) ⟨_,rfl⟩ ?_ ?_ ?_
   ·rintro i t r v σ H5 Q5 et er ⟨o,rfl⟩ g5 it ⟨ys,hy⟩ q5
    rw [List.getElem?_map] at et er
    obtain ⟨en,ee,rfl⟩:=Option.map_eq_some_iff.mp et
    rw [ee] at er
    cases er
    refine ⟨rfl, ?_⟩
    refine ⟨_,rfl,_,rfl,a,_,_,_,rfl,rfl,g5.up _ _ ha,Va,_,rfl,e,S,ms,y,en.u,en.w,v,rfl,mk.up g5.upT,mo,(hl en (List.mem_of_getElem? ee)).2,it,fun v' H6 iv g6=>?_⟩
    exact q5 v' _ H6 ⟨_,rfl⟩ (g5.trans g6) g6.upT (fun o ho=>g6 _ _ ho) iv
   ·intro v σ H5 A B h
    show (if true=true then A (σ.set 0 (some v)) H5 else B (σ.set 0 (some v)) H5)
    exact Yh rfl h.2
   ·rintro H6 ws σ _ g6 h6 a6
    refine ⟨D,_,rfl,.inl ⟨Z0.of h6,fun e1 h1=>⟨(sz 2),fun e2 h2=>?_⟩⟩⟩
    have s1:=Zv.lay (o:=.tup ws) h1
    have s2:=Zv.lay (o:=.tup [.str "row",.ref e1]) h2
    exact q _ _ ⟨e2,_,rfl,Z6.of Zz,_,_,rfl,rfl,_,_,rfl,⟨e1,ws,rfl,s2.up _ _ (Z6.of Zz),Zw.up (s1.trans s2).upT _ _ a6⟩,rfl⟩ (s0.trans (g6.trans (s1.trans s2)))
  | false =>
   obtain ⟨l,l3,hl,rfl,rfl⟩:=hw
   cases (show w1=.str "map" from i1)
   obtain ⟨pa,xs,rfl,hpa,axs⟩:=iu
   refine ⟨_,rfl,a,_,_,_,rfl,rfl,ha,at0,(sz 2),fun e0 h0=>?_⟩
   have s0:=Zv.lay (o:=.tup [.str "whole",.str "truth"]) h0
   refine ⟨e0,_,rfl,.inr (Z6.of Zz),rfl,rfl,_,rfl,Z5 (by decide +kernel) ?_⟩
   have ha:=s0.up _ _ ha
   have hpa':=s0.upT (K:=K)
   refine ⟨_,rfl,a,_,_,_,rfl,rfl,ha,at0,rfl,_,rfl,Z5 (by decide +kernel) ?_⟩
   refine ⟨_,rfl,a,_,_,_,rfl,rfl,ha,at0,rfl,_,rfl,Z5 (by decide +kernel) ?_⟩
   refine ⟨_,rfl,a,_,_,_,rfl,rfl,ha,at0,rfl,_,rfl,Yh (by decide +kernel) ?_⟩
   have mk:=mk.up hpa'
   have hpa:=hpa'.tup _ _ hpa
   have axs:=Zw.up hpa' _ _ axs
   refine ⟨_,rfl,pa,rfl,⟨_,hpa⟩,fun D fp sx hD=>?_⟩
   refine compG_tup (K:=K) (xs:=xs) (ts:=l.map fun e=>.tup [.str e.k,e.u]) (rs:=l.map fun e=>.tup [.str e.k,e.w]) (fun _ H5=>Zv _ H5) (fun σ=>∃ o1 o2,σ=[o1,o2,some (.ref e),some (.ref a)]) (fun i H5 g=>g.up _ _ hpa) axs (by rw [List.length_map,List.length_map]) (by rw [List.length_map]; omega) (fun i H5 g=>g.upT) (fun i H5 ys zs g h=>g.put hD) (Zv.lay hD) ⟨_,_,rfl⟩ ?_ ?_ ?_
   ·rintro i t r v σ H5 Q5 et er ⟨o1,o2,rfl⟩ g5 it ⟨ys,hy⟩ q5
    rw [List.getElem?_map] at et er
    obtain ⟨en,ee,rfl⟩:=Option.map_eq_some_iff.mp et
    rw [ee] at er
    cases er
    obtain ⟨pb,zs,rfl,hpb,azs⟩:=it
    obtain ⟨z1,z2,rfl,k1,k2⟩:=are2 azs
    cases (show z1=.str en.k from k1)
    refine ⟨pb,_,rfl,hpb,rfl,_,_,rfl,_,_,rfl,rfl,rfl, ?_⟩
    refine ⟨_,rfl,_,rfl,_,rfl,a,_,_,_,rfl,rfl,g5.up _ _ ha,Va,_,rfl,e,S,ms,y,en.u,en.w,z2,rfl,mk.up g5.upT,mo,(hl en (List.mem_of_getElem? ee)).2,k2,fun v' H6 iv g6=>⟨(sz 2),fun e2 h2=>?_⟩⟩
    have s2:=Zv.lay (o:=.tup [.str en.k,v']) h2
    exact q5 _ _ _ ⟨_,_,rfl⟩ (g5.trans (g6.trans s2)) (g6.trans s2).upT (fun o ho=>(g6.trans s2) _ _ ho) ⟨e2,_,rfl,Z6.of Zz,_,_,rfl,rfl,_,_,rfl,Zd.up s2.upT _ _ iv,rfl⟩
   ·intro v σ H5 A B h
    obtain ⟨a1,x1,e1,e2,e3,y1,r1,e4,y2,r2,e5,e6,_,h⟩:=h
    exact ⟨a1,x1,e1,e2,e3,y1,r1,e4,y2,r2,e5,e6,(show (if true=true then A ((σ.set 0 (some y1)).set 1 (some y2)) H5 else B ((σ.set 0 (some y1)).set 1 (some y2)) H5) from Yh rfl h)⟩
   ·rintro H6 ws σ _ g6 h6 a6
    refine ⟨D,_,rfl,.inl ⟨Z0.of h6,fun e1 h1=>⟨(sz 2),fun e2 h2=>?_⟩⟩⟩
    have s1:=Zv.lay (o:=.tup ws) h1
    have s2:=Zv.lay (o:=.tup [.str "map",.ref e1]) h2
    exact q _ _ ⟨e2,_,rfl,Z6.of Zz,_,_,rfl,rfl,_,_,rfl,⟨e1,ws,rfl,s2.up _ _ (Z6.of Zz),Zw.up (s1.trans s2).upT _ _ a6⟩,rfl⟩ (s0.trans (g6.trans (s1.trans s2)))
 | cho fs us o =>
  obtain ⟨a,ws,rfl,ha,at'⟩:=isv
  obtain ⟨w1,w2,w3,w4,rfl,i1,i2,i3,i4⟩:=are4 at'
  cases (show w1=.str "choice" from i1)
  obtain ⟨fa,fws,rfl,hfa,afs⟩:=i2
  refine ⟨_,rfl,a,_,_,_,rfl,rfl,ha,at0,(sz 2),fun e0 h0=>?_⟩
  have s0:=Zv.lay (o:=.tup [.str "whole",.str "truth"]) h0
  refine ⟨e0,_,rfl,.inr (Z6.of Zz),rfl,rfl,_,rfl,Z5 (by decide +kernel) ?_⟩
  have ha:=s0.up _ _ ha
  have hpa':=s0.upT (K:=K)
  refine ⟨_,rfl,a,_,_,_,rfl,rfl,ha,at0,rfl,_,rfl,Z5 (by decide +kernel) ?_⟩
  refine ⟨_,rfl,a,_,_,_,rfl,rfl,ha,at0,rfl,_,rfl,Z5 (by decide +kernel) ?_⟩
  refine ⟨_,rfl,a,_,_,_,rfl,rfl,ha,at0,rfl,_,rfl,Z5 (by decide +kernel) ?_⟩
  refine ⟨_,rfl,a,_,_,_,rfl,rfl,ha,at0,rfl,_,rfl,Yh (by decide +kernel) ?_⟩
  have hfa:=hpa'.tup _ _ hfa
  have afs:=Zw.up hpa' _ _ afs
  have iu:=Zd.up hpa' _ _ iu
  have mk:=mk.up hpa'
  have pr:Vg ms fs:=(mo.ok x _ es).1
  have nd:(fs.map Vm.n).Nodup:=List.Nodup.sublist pr.nums (by decide)
  obtain ⟨tag,nb,t3,w3,rfl,rfl,hc⟩:∃ (tag:Str) (nb:Int) (t3 w3:Th),u=.tup [.str tag,.int nb,t3]/\wt=.tup [.str "arm",.int nb,w3]/\((∃ g∈fs,g.n=nb/\Wr' own ms n g.y t3 w3)\/(nb ∉ fs.map Vm.n/\w3=t3)):=by
   rcases hw with ⟨g,mg',u',w',hw',rfl,rfl⟩ | ⟨_,nn,it,nk,n0,n1,gi,rfl,rfl⟩
   ·exact ⟨_,_,_,_,rfl,rfl,.inl ⟨g,mg',rfl,hw'⟩⟩
   ·exact ⟨_,_,_,_,rfl,rfl,.inr ⟨nk,rfl⟩⟩
  obtain ⟨pa,xs,rfl,hpa,axs⟩:=iu
  obtain ⟨z1,z2,z3,rfl,k1,k2,k3⟩:=are3 axs
  cases (show z2=.int nb from k2)
  have l5:=pr.len
  refine ⟨_,rfl,a,_,_,_,rfl,rfl,ha,Va,fa,rfl,⟨_,hfa⟩,fun D fp sx hD=>?_⟩
  refine comp_tup (K:=K) (xs:=fws) (fun i ys σ H5=>(∃ o,σ=[o,some (.ref pa)])/\ys=((fs.take i).filter fun f=>decide (f.n=nb)).map (fun f=>V.str f.y)/\Zv _ H5/\H5 D=some (.lst ys)) ⟨⟨_,rfl⟩,rfl,Zv.lay hD,Zz⟩ ?_ ?_ ?_
  ·rintro i ys σ H5 hi ⟨_,_,g5,h5⟩
   exact ⟨g5.up _ _ hfa,h5⟩
  ·rintro i x ys σ H5 hx ⟨⟨o,rfl⟩,ey,g5,h5⟩
   obtain ⟨t,et,it⟩:=afs.got hx
   rw [List.getElem?_map] at et
   obtain ⟨fl,ef,rfl⟩:=Option.map_eq_some_iff.mp et
   obtain ⟨b,bs,rfl,hb,ab⟩:=Zd.up g5.upT _ _ it
   obtain ⟨b1,b2,b3,rfl,j1,j2,j3⟩:=are3 ab
   cases (show b1=.int fl.n from j1)
   cases (show b3=.str fl.y from j3)
   refine goOn ?_
   refine ⟨_,rfl,b,_,_,_,rfl,rfl,hb,at0,_,rfl,pa,_,_,_,rfl,rfl,g5.up _ _ hpa,Va,rfl,_,rfl, ?_⟩
   refine V1 (fun c=>?_) (fun c=>?_)
   ·have c:fl.n=nb:=by injection of_decide_eq_true c
    refine ⟨_,rfl,b,_,_,_,rfl,rfl,hb,at2,h5, ?_,⟨_,rfl⟩, ?_,g5.put hD,Zz⟩
    ·rw [ey,List.length_map]
     exact Yq (Nat.le_trans (List.length_filter_le _ _) (by rw [List.length_take]; omega))
    ·rw [Zr ef,List.filter_append,List.map_append, <-ey]
     simp [c]
   ·have c:¬ fl.n=nb:=fun z=>c (by rw [z]; exact decide_eq_true rfl)
    refine ⟨⟨_,rfl⟩, ?_,g5,h5⟩
    rw [Zr ef,List.filter_append,List.map_append, <-ey]
    simp [c]
  ·rintro ys σ H5 ⟨_,ey,g5,h5⟩
   have lf:=afs.length
   rw [List.length_map] at lf
   rw [<-lf,List.take_length] at ey
   refine ⟨_,rfl,pa,_,_,_,rfl,rfl,g5.up _ _ hpa,Va, ?_⟩
   refine ⟨_,rfl,(sz 0),fun L hL=>?_⟩
   have sL:=Zv.lay (o:=.lst []) hL
   have gL:=g5.trans sL
   refine ⟨D,L,ys,rfl,rfl,Z0.of (sL _ _ h5),Z0.of Zz, ?_,_,rfl, ?_⟩
   ·have h:A.units+3+16 * k+200<cLine:=hr.un
    show A.units+3<cLine
    omega
   rcases hc with ⟨g,mg',rfl,hw'⟩ | ⟨nk,rfl⟩
   ·rw [filt_one nd mg'] at ey
    cases ey
    refine Z5 rfl ?_
    refine ⟨_,rfl,_,rfl,D,_,_,_,rfl,rfl,Z0.of (sL _ _ h5),at0,_,rfl,pa,_,_,_,rfl,rfl,gL.up _ _ hpa,at2,e,S,ms,g.y,t3,w3,z3,rfl,mk.up gL.upT,mo,hw',Zd.up gL.upT _ _ k3,fun v' H6 iv g6=>⟨(sz 3),fun e2 h2=>?_⟩⟩
    have s2:=Zv.lay (o:=.tup [.str "arm",.int g.n,v']) h2
    exact q _ _ ⟨e2,_,rfl,Z6.of Zz,_,_,rfl,rfl,_,_,rfl,rfl,_,_,rfl,Zd.up s2.upT _ _ iv,rfl⟩ (s0.trans (gL.trans (g6.trans s2)))
   ·rw [filt_none nk] at ey
    cases ey
    refine Yh rfl ?_
    refine ⟨_,rfl,pa,_,_,_,rfl,rfl,gL.up _ _ hpa,at2,(sz 3),fun e2 h2=>?_⟩
    have s2:=Zv.lay (o:=.tup [.str "arm",.int nb,z3]) h2
    exact q _ _ ⟨e2,_,rfl,Z6.of Zz,_,_,rfl,rfl,_,_,rfl,rfl,_,_,rfl,Zd.up (gL.trans s2).upT _ _ k3,rfl⟩ (s0.trans (gL.trans s2))
 | rcd fs us =>
  obtain ⟨l,os,ps,rfl,hl,ho,rfl,hp,sp,rfl⟩:=hw
  have pr:Vg ms (l.map Ent.f):=mo.ok x _ es
  have l5:l.length<=5:=by have:=pr.len; rw [List.length_map] at this; exact this
  have nn:((l.map Ent.f).map Vm.n).Nodup:=List.Nodup.sublist pr.nums (by decide)
  have kn:=keys_nd ho nn
  obtain ⟨a,ws,rfl,ha,at'⟩:=isv
  obtain ⟨w1,w2,w3,rfl,i1,i2,i3⟩:=are3 at'
  cases (show w1=.str "record" from i1)
  obtain ⟨fa,fws,rfl,hfa,afs⟩:=i2
  obtain ⟨pa,xs,rfl,hpa,axs⟩:=iu
  obtain ⟨z1,z2,rfl,k1,k2⟩:=are2 axs
  obtain ⟨ka,kx,rfl,hka,akx⟩:=k1
  obtain ⟨oa,ox,rfl,hoa,aox⟩:=k2
  refine ⟨_,rfl,a,_,_,_,rfl,rfl,ha,at0,(sz 2),fun e0 h0=>?_⟩
  have s0:=Zv.lay (o:=.tup [.str "whole",.str "truth"]) h0
  refine ⟨e0,_,rfl,.inr (Z6.of Zz),rfl,rfl,_,rfl,Z5 (by decide +kernel) ?_⟩
  have ha:=s0.up _ _ ha
  have hpa':=s0.upT (K:=K)
  refine ⟨_,rfl,a,_,_,_,rfl,rfl,ha,at0,rfl,_,rfl,Z5 (by decide +kernel) ?_⟩
  refine ⟨_,rfl,a,_,_,_,rfl,rfl,ha,at0,rfl,_,rfl,Z5 (by decide +kernel) ?_⟩
  refine ⟨_,rfl,a,_,_,_,rfl,rfl,ha,at0,rfl,_,rfl,Z5 (by decide +kernel) ?_⟩
  refine ⟨_,rfl,a,_,_,_,rfl,rfl,ha,at0,rfl,_,rfl,Z5 (by decide +kernel) ?_⟩
  have mk:=mk.up hpa'
  have hfa:=hpa'.tup _ _ hfa
  have afs:=Zw.up hpa' _ _ afs
  have hpa:=hpa'.tup _ _ hpa
  have hka:=hpa'.tup _ _ hka
  have akx:=Zw.up hpa' _ _ akx
  have hoa:=hpa'.tup _ _ hoa
  have aox:=Zw.up hpa' _ _ aox
  obtain ⟨kv0,pd0,ln0,kat0⟩:=dr_of aox
  refine ⟨_,rfl,pa,_,_,_,rfl,rfl,hpa,Va,oa,ox,kv0,rfl,hoa,ln0,kat0,fun D hD=>?_⟩
  have sD:=Zv.lay (o:=.dK (foldP kv0)) hD
  have pf:Paired (DR K _) (foldP kv0) os:=fold_dr (b:=[]) pd0 .nil (by rw [List.nil_append]; exact ho.nd)
  refine ⟨_,rfl,a,_,_,_,rfl,rfl,sD.up _ _ ha,Va,_,rfl,pa,_,_,_,rfl,rfl,sD.up _ _ hpa,at0,fa,ka,rfl,⟨_,sD.up _ _ hfa⟩,⟨_,sD.up _ _ hka⟩, ?_⟩
  have lfw:fws.length=l.length:=by rw [<-afs.length,List.length_map,List.length_map]
  have lkx:kx.length=l.length:=by rw [<-akx.length,List.length_map]
  refine for_zipT (K:=K) (xs:=fws) (ys:=kx) (fun i σ H5=>(∃ o4 o6 o7,σ=[some (.ref e),some (.str x),some (.ref pa),some (.ref a),o4,some (.ref D),o6,o7])/\Zv _ H5/\∃ kvs,H5 D=some (.dK kvs)/\Paired (DR K H5) kvs (os++kept (l.take i))) ⟨⟨_,_,_,rfl⟩,sD,_,Zz, ?_⟩ ?_ ?_ ?_
  ·rw [List.take_zero,show kept []=[] from rfl,List.append_nil]
   exact DR.upO pf (upO_of sD.upT)
  ·rintro i σ H5 hi ⟨_,g5,_⟩
   exact ⟨g5.up _ _ hfa,g5.up _ _ hka⟩
  ·rintro i xv yv p σ H5 hx hy ⟨⟨o4,o6,o7,rfl⟩,g5,kvs,h5,pd⟩ hpn
   have sP:=Zv.lay (o:=.tup [xv,yv]) hpn
   have g6:=g5.trans sP
   obtain ⟨t,et,it⟩:=afs.got hx
   rw [List.getElem?_map,List.getElem?_map] at et
   obtain ⟨en,ee,rfl⟩:∃ en,l[i]?=some en/\en.f.t=t:=by
    cases z:l[i]? with
    | none=>rw [z] at et; cases et
    | some en=>rw [z] at et; exact ⟨en,rfl,Option.some.inj et⟩
   obtain ⟨t2,et2,iu⟩:=akx.got hy
   rw [List.getElem?_map,ee] at et2
   cases et2
   have men:=List.mem_of_getElem? ee
   have mf:en.f∈l.map Ent.f:=List.mem_map_of_mem men
   have hwn:=hl en men
   obtain ⟨b,bs,rfl,hb,ab⟩:=it
   obtain ⟨b1,b2,b3,b4,rfl,j1,j2,j3,j4⟩:=are4 ab
   cases (show b1=.int en.f.n from j1)
   cases (show b3=.str en.f.y from j3)
   have gu:=wr_gd' mo hwn
   have gd1:=opt_gd pr mf
   have gu1:=gd_tup (ts:=[en.u]) (n:=1) (fun t m=>by rw [List.mem_singleton.mp m]; exact gu) (Nat.le_refl _)
   have cw:CW n<=2000000:=(by decide:∀ n,n<4->CW n<=2000000) n (by omega)
   have su:=gu1.shown (Nat.le_trans (show _<=2000010 by omega) (by decide)) (by omega)
   have sd:=gd1.shown (by decide) (by decide)
   refine ⟨p,_,rfl,Z6.of Zz,rfl,_,_,rfl,_,_,rfl,rfl, ?_⟩
   refine ⟨_,rfl,(sz 1),fun e1 h1=>?_⟩
   have s1:=Zv.lay (o:=.tup [yv]) h1
   have g7:=g6.trans s1
   refine ⟨_,Vv [en.u],rfl,Vn (.tup [en.u]) _ ⟨gu.nq,trivial⟩ ⟨e1,_,rfl,Z6.of Zz,Zw.one (Zd.up g7.upT _ _ iu)⟩,su.1,su.2.1,su.2.2, ?_⟩
   refine ⟨_,rfl,b,_,_,_,rfl,rfl,g7.up _ _ hb,at3,_,Vv en.f.d.toList,rfl,Vn (.tup en.f.d.toList) _ gd1.nq (Zd.up g7.upT _ _ j4),sd.1,sd.2.1,sd.2.2, ?_⟩
   have sl:=shown_lfo pr mf hwn
   refine ⟨rfl,_,rfl, ?_⟩
   have pd7:Paired (DR K _) kvs (os++kept (l.take i)):=DR.upO pd (upO_of (sP.trans s1).upT)
   have h7:=(sP.trans s1) _ _ h5
   refine V1 (fun c=>?_) (fun c=>?_)
   ·have c':lfo en=false:=by
     cases z:lfo en
     ·rfl
     ·rw [sl.mpr z] at c
      simp at c
    refine ⟨_,rfl,_,rfl,b,_,_,_,rfl,rfl,g7.up _ _ hb,at2,_,rfl,e,S,ms,en.f.y,en.u,en.w,yv,rfl,mk.up g7.upT,mo,hwn,Zd.up g7.upT _ _ iu,fun v' H8 iv g8=>?_⟩
    have h8:=g8 _ _ h7
    have pd8:=DR.upO pd7 (upO_of g8.upT)
    have lk:kvs.length<=11:=by
     rw [Paired.length pd,List.length_append]
     have:=kept_len (l.take i)
     rw [List.length_take] at this
     have:=ho.len
     omega
    have g78:=g7.trans g8
    refine ⟨_,rfl,_,rfl,b,_,_,_,rfl,rfl,g78.up _ _ hb,at0,D,Z3 H8 D (.dK (putK kvs (.inl en.f.n) v')),rfl,.inl ⟨kvs,.inl en.f.n,h8,rfl,Nat.lt_of_le_of_lt lk (by decide),rfl⟩,⟨_,_,_,rfl⟩,g78.put hD,_,Zz, ?_⟩
    have nk:en.f.n ∉ (os++kept (l.take i)).map (·.1):=fun mm=>by
     rw [List.map_append] at mm
     rcases List.mem_append.mp mm with mm | mm
     ·obtain ⟨o,mo',eo⟩:=List.mem_map.mp mm
      exact (ho.ok o mo').1 (by rw [eo]; exact List.mem_map_of_mem mf)
     ·obtain ⟨o,mo',eo⟩:=List.mem_map.mp mm
      obtain ⟨e',me',rfl⟩:=List.mem_map.mp mo'
      have me':=(List.mem_filter.mp me').1
      refine nd_atI (i:=i) nn (n:=en.f.n) (by rw [List.getElem?_map,List.getElem?_map,ee]; rfl) ?_
      rw [<-eo, <-List.map_take, <-List.map_take]
      exact List.mem_map_of_mem (List.mem_map_of_mem me')
    rw [putK_new v' (dr_none pd8 nk),Zr ee,kept_snoc,c',if_neg (by decide), <-List.append_assoc]
    exact DR.upO (dr_snoc pd8 iv) (upO_put h8)
   ·have c':lfo en=true:=by
     refine sl.mp ?_
     by_cases z:rpD (.tup (Vv [en.u]))=rpD (.tup (Vv en.f.d.toList))
     ·exact z
     ·exact absurd (by simpa using z) c
    refine ⟨⟨_,_,_,rfl⟩,g7,kvs,h7, ?_⟩
    rw [Zr ee,kept_snoc,if_pos c',List.append_nil]
    exact pd7
  ·rintro σ H5 ⟨⟨o4,o6,o7,rfl⟩,g5,kvs,h5,pd⟩
   rw [lfw,lkx,Nat.min_self,List.take_length] at pd
   have pdp:(os++kept l).Perm (kept l++os):=List.perm_append_comm
   have kn':((os++kept l).map (·.1)).Nodup:=(pdp.map _).nodup_iff.mpr kn
   refine ⟨_,rfl,D,kvs,(os++kept l).map (·.1),rfl,.inl h5,dr_keys pd, ?_,fun L ns nL pn sn=>?_⟩
   ·rw [List.length_map,List.length_append]
    have:=kept_len l
    have:=ho.len
    omega
   have en:ns=ps.map (·.1):=ints_uniq pn ((hp.map (·.1)).trans (pdp.map (·.1)).symm) sn (List.pairwise_map.mpr sp)
   subst en
   have sL:=Zv.lay (o:=.lst ((ps.map (·.1)).map V.int)) nL
   refine ⟨L,rfl,⟨_,Z0.of Zz⟩,fun D2 fp sx hD2=>?_⟩
   have aI:Zw K (Z3 H5 L (.lst ((ps.map (·.1)).map V.int))) (ps.map fun p=>Th.int p.1) ((ps.map (·.1)).map V.int):=by
    have:=of_ints (K:=K) (H:=Z3 H5 L (.lst ((ps.map (·.1)).map V.int))) (ps.map (·.1))
    rw [show (ps.map fun p=>Th.int p.1)=(ps.map (·.1)).map Th.int by rw [List.map_map]; rfl]
    exact this
   have lps:ps.length<=11:=by
    rw [hp.length_eq,List.length_append]
    have:=kept_len l
    have:=ho.len
    omega
   refine compG_list (K:=K) (xs:=(ps.map (·.1)).map V.int) (ts:=ps.map fun p=>Th.int p.1) (rs:=ps.map prT) (fun _ H6=>Zv _ H6) (fun σ=>∃ o,σ=[o,some (.ref D)]) (fun i H6 g=>Z0.of (g _ _ Zz)) aI (by rw [List.length_map,List.length_map]) (by rw [List.length_map]; omega) (fun i H6 g=>g.upT) (fun i H6 ys zs g h=>g.put hD2) (Zv.lay hD2) ⟨_,rfl⟩ ?_ ?_ ?_
   ·rintro i t r v σ H6 Q5 et er ⟨o,rfl⟩ g6 it ⟨ys,hy⟩ q5
    rw [List.getElem?_map] at et er
    obtain ⟨pp,ep,rfl⟩:=Option.map_eq_some_iff.mp et
    rw [ep] at er
    cases er
    cases (show v=.int pp.1 from it)
    have sL6:=sL.trans g6
    have pd6:=DR.upO pd (upO_of sL6.upT)
    obtain ⟨vv,evv,ivv⟩:=dr_get pd6 kn' (pdp.mem_iff.mpr (hp.mem_iff.mp (List.mem_of_getElem? ep)))
    refine ⟨rfl, ?_⟩
    refine ⟨_,rfl,_,rfl,_,rfl,D,_,rfl,(show DGet H6 D (kV (.inl pp.1)) (some vv) from evv ▸ DGet.k (k:=.inl pp.1) (sL6 _ _ h5)),(sz 2),fun e2 h2=>?_⟩
    have s2:=Zv.lay (o:=.tup [.int pp.1,vv]) h2
    exact q5 _ _ _ ⟨_,rfl⟩ (g6.trans s2) s2.upT (fun o ho=>s2 _ _ ho) ⟨e2,_,rfl,Z6.of Zz,_,_,rfl,rfl,_,_,rfl,Zd.up s2.upT _ _ ivv,rfl⟩
   ·intro v σ H5 A B h
    show (if true=true then A (σ.set 0 (some v)) H5 else B (σ.set 0 (some v)) H5)
    exact Yh rfl h.2
   ·rintro H6 ws σ _ g6 h6 a6
    refine ⟨D2,_,rfl,.inl ⟨Z0.of h6,fun e1 h1=>⟨(sz 2),fun e2 h2=>?_⟩⟩⟩
    have s1:=Zv.lay (o:=.tup ws) h1
    have s2:=Zv.lay (o:=.tup [.str "rec",.ref e1]) h2
    exact q _ _ ⟨e2,_,rfl,Z6.of Zz,_,_,rfl,rfl,_,_,rfl,⟨e1,ws,rfl,s2.up _ _ (Z6.of Zz),Zw.up (s1.trans s2).upT _ _ a6⟩,rfl⟩ (s0.trans (g5.trans (sL.trans (g6.trans (s1.trans s2)))))
end
abbrev s_law_record:Stmt:=top 18
abbrev N_law_record:List Str:=["_law_feed_here","_law_make_here","_law_shape","_law_deep","_law_known","_law_number","_law_name","_law_inner","_law_default","_law_some"]
theorem Yc:Yk N_law_record ["_law_feed_here","_law_make_here","_law_shape","_law_deep"] (Zf s_law_record):=by trivial
def VB:Nat->Nat
 | 0=>10
 | n+1=>10+6 * VB n
def Res (K:PySem.W.Frag) (H:Hp) (W:Th->Th->Prop) (L:Addr):Prop:=H L=some (.lst [])\/∃ v u w,H L=some (.lst [v])/\Zd K H u v/\W u w
section
variable {K:PySem.W.Frag} {H H':Hp} {W:Th->Th->Prop} {L l:Addr} {r r':Nat}
theorem Res.same (h:Res K H W L) (s:Zv H H'):Res K H' W L:=h.imp (fun z=>s _ _ z) fun ⟨v,u,w,e,i,q⟩=>⟨v,u,w,s _ _ e,Zd.up s.upT _ _ i,q⟩
theorem Res.ne (h:Res K H W L) (f:Fd r H l):L≠l:=fun z=>by
 obtain ⟨a,ns,b,c,d,e,_⟩:=f
 rcases h with h | ⟨v,u,w,h,_⟩ <;> (rw [z,e] at h; cases h)
theorem Res.step (h:Res K H W L) (f:Fd r' H l) (t:Y5 l r H H'):Res K H' W L:=by
 have n:=h.ne f
 exact h.imp (fun z=>t.keep _ _ n z) fun ⟨v,u,w,e,i,q⟩=>⟨v,u,w,t.keep _ _ n e,Zd.up (t.upT f) _ _ i,q⟩
theorem Res.put (h:Res K H W L) {D:Addr} {ys zs:List V} (hD:H D=some (.lst ys)) (n:L≠D):Res K (Z3 H D (.lst zs)) W L:=h.imp (fun z=>by rw [Zk n]; exact z) fun ⟨v,u,w,e,i,q⟩=>⟨v,u,w,by rw [Zk n]; exact e,Zd.up (Yv hD) _ _ i,q⟩
end
mutual
theorem dp_lv:∀ t:Th,dpD (thD t)=lvD (thD t)
 | .non=>rfl
 | .bl _=>rfl
 | .int _=>rfl
 | .str _=>rfl
 | .opq=>rfl
 | .tup ts=>by show dpDs (Vv ts)+1=lvDs (Vv ts)+1; rw [dps_lvs ts]
theorem dps_lvs:∀ ts:List Th,dpDs (Vv ts)=lvDs (Vv ts)
 | []=>rfl
 | t::ts=>by show max (dpD (thD t)) (dpDs (Vv ts))=max (lvD (thD t)) (lvDs (Vv ts)); rw [dp_lv t,dps_lvs ts]
end
def rD:Option Th->D
 | none=>.lst []
 | some u=>.lst [thD u]
theorem resD {K:W.Frag} {H:Hp} {own:Bool} {ms:List (Str × Yr)} {n:Nat} {x:Str} {L:Addr} (mo:MkOk ms) (hn:n<=3) (h:Res K H (Wr own ms n x) L):∃ o:Option Th,Vu K H (rD o) (.ref L)/\dpD (rD o)<=100/\((o=none/\H L=some (.lst []))\/∃ v u w,o=some u/\H L=some (.lst [v])/\Zd K H u v/\Wr own ms n x u w):=by
 rcases h with h | ⟨v,u,w,h,i,q⟩
 ·exact ⟨none,⟨L,[],rfl,Z0.of h,rfl⟩,by decide,.inl ⟨rfl,h⟩⟩
 ·have g:=(Wr.gd mo q).1
  refine ⟨some u,⟨L,[v],rfl,Z0.of h,v,[],rfl,Vn _ _ g.nq i,rfl⟩, ?_,.inr ⟨v,u,w,rfl,h,i,q⟩⟩
  show max (dpD (thD u)) 0+1<=100
  rw [dp_lv]
  have:=g.lv
  omega
theorem pv_wr {own:Bool} {ms:List (Str × Yr)} {n:Nat} {y:Str} {s:Yr} {d:Th} (es:lkM ms y=some s) (p:Pv s d):∃ w,Wr own ms n y d w:=by
 cases s with
 | whole lo hi=>exact ⟨_,Wr.of es ⟨p,rfl⟩⟩
 | truth =>
  cases d with
  | bl b=>exact ⟨_,Wr.of es ⟨b,rfl,rfl⟩⟩
  | _=>exact p.elim
 | text k=>exact ⟨_,Wr.of es ⟨p,rfl⟩⟩
 | row b y k =>
  have hd:d=.tup []:=by
   cases d with
   | tup ts =>
    cases ts with
    | nil=>rfl
    | cons _ _=>exact p.elim
   | _=>exact p.elim
  subst hd
  cases b with
  | true=>exact ⟨_,Wr.of es ⟨[],Nat.zero_le _,fun e m=>absurd m List.not_mem_nil,rfl,rfl⟩⟩
  | false=>exact ⟨_,Wr.of es ⟨[],Nat.zero_le _,fun e m=>absurd m List.not_mem_nil,rfl,rfl⟩⟩
 | rcd _ _=>cases d <;> exact p.elim
 | cho _ _ _=>cases d <;> exact p.elim
theorem mk_rec {W:Str->Th->Th->Prop} {own:Bool} {l:List Ent} {us:List Int} {os:List (Int × Th)} (hl:∀ e∈l,W e.f.y e.u e.w) (ho:OsOk own (l.map Ent.f) os):∃ w,VW W own (.rcd (l.map Ent.f) us) (.tup [.tup (l.map Ent.u),.tup (os.map prT)]) w :=
 ⟨_,l,os,(kept l++os).mergeSort (fun a b=>decide (a.1<=b.1)),rfl,hl,ho,rfl,List.mergeSort_perm _ _,by
  have:=List.pairwise_mergeSort (le:=fun a b:Int × Th=>decide (a.1<=b.1)) (fun a b c h1 h2=>by simp only [decide_eq_true_eq] at *; omega) (fun a b=>by simp only [Bool.or_eq_true,decide_eq_true_eq]; omega) (kept l++os)
  exact this.imp fun h=>of_decide_eq_true h,rfl⟩
def spVal (K:W.Frag) (n:Nat):Sp:=fun vs H Q _=>∃ (l e S:Addr) (ms:List (Str × Yr)) (x:Str) (r:Nat),vs=[.ref l,.ref e,.str x,.int (n:Int)]/\MkAt K H e S ms/\MkOk ms/\(lkM ms x).isSome=true/\Fd (r+VB n) H l/\∀ L H',Res K H' (Wr true ms n x) L->H L=none->Y5 l r H H'->Q (.ref L) H'
def spVal' (K:W.Frag):Nat->Sp
 | 0=>fun _ _ _ _=>False
 | n+1=>spVal K n
def spRec (K:W.Frag) (n:Nat):Sp:=fun vs H Q _=>∃ (l e S:Addr) (ms:List (Str × Yr)) (sv:V) (fs:List Vm) (us:List Int) (r:Nat),vs=[.ref l,.ref e,sv,.int ((n+1:Nat):Int)]/\MkAt K H e S ms/\MkOk ms/\Zd K H (Yr.rcd fs us).t sv/\Vg ms fs/\Fd (r+(5+5 * VB n)) H l/\∀ L H',Res K H' (VW (Wr true ms n) true (.rcd fs us)) L->H L=none->Y5 l r H H'->Q (.ref L) H'
def spRec' (K:W.Frag):Nat->Sp
 | 0=>fun _ _ _ _=>False
 | n+1=>spRec K n
structure Rk (K:W.Frag) (l C:Addr) (H:Hp) (ys:List V) (es:List Ent) (r:Nat) (Ha:Hp):Prop where
 st:Y5 l r H Ha
 c:Ha C=some (.lst ys)
 a:Zw K Ha (es.map Ent.u) ys
section
variable {K:W.Frag} {l C:Addr} {H Ha Hb:Hp} {ys:List V} {es:List Ent} {r r':Nat}
theorem Rk.same (k:Rk K l C H ys es r Ha) (s:Zv Ha Hb):Rk K l C H ys es r Hb:=⟨k.st.same s,s _ _ k.c,Zw.up s.upT _ _ k.a⟩
theorem Rk.step (k:Rk K l C H ys es r Ha) (t:Y5 l r' Ha Hb) (n:C≠l):Rk K l C H ys es r' Hb:=⟨k.st.trans t,t.keep _ _ n k.c,Zw.up (t.upT k.st.feed) _ _ k.a⟩
theorem Rk.mono (k:Rk K l C H ys es r Ha) (h:r'<=r):Rk K l C H ys es r' Ha:=⟨k.st.mono h,k.c,k.a⟩
end
section
variable {P:Program} {w:World} {K:W.Frag} {mg:Str->Option Value} {base:Heap} {f:Addr} {fd:FuncData}
theorem ok_record {k n:Nat} (hn:n<=3) (F:Fun K "_law_record" "_law_record" s_law_record f fd) (m:Bn mg) (g_law_draw:Fn P w K mg base 1 "_law_draw" ["_law_feed_here","_law_many"] spDraw) (g_law_value:Fn P w K mg base k "_law_value" ["_law_feed_here","_law_make_here","_law_name","_law_deep"] (spVal K n)) (k1:1<=k):Y4 P w K mg base CX0 (k+1) f fd ["_law_feed_here","_law_make_here","_law_shape","_law_deep"] (spRec K n):=by
 refine F.ok Yc (fun vs H Q E h=>?_) (fun cdv A outer s H vs Q E hr h=>?_)
 ·obtain ⟨l,e,S,ms,sv,fs,us,r,rfl,_⟩:=h
  rfl
 obtain ⟨l,e,S,ms,sv,fs,us,r,rfl,mk,mo,is,pr,fe,q⟩:=h
 refine ⟨_,(@Zj _ _ _ _ _ (@Zo _ 4 _ _ _ _ _ Yc.nd rfl (by trivial) (@Z7 _ _ _ _ Zx) rfl (by trivial)) (@Zj _ _ _ _ _ (@ps_for _ _ _ _ _ _ _ _ PassesOwn.never rfl (@V0 _ _ _ _ (@Zm _ _ _ _ _ _ _ Zt (pv 2) Zq (fun _ _=>rfl))) (@pg_tup _ _ _ _ _ _ rfl (@Yj _ _ _ _ _ (@Zn _ 5 _ _ Yc.nd rfl (by trivial) (by trivial)) (@Yj _ _ _ _ _ (@Zn _ 6 _ _ Yc.nd rfl (by trivial) (by trivial)) (@Yj _ _ _ _ _ (@Zn _ 7 _ _ Yc.nd rfl (by trivial) (by trivial)) (@Yj _ _ _ _ _ (@Zn _ 8 _ _ Yc.nd rfl (by trivial) (by trivial)) pgs_nil (by trivial)) (by trivial)) (by trivial)) (by trivial)) (by trivial) (by trivial)) (@Zj _ _ _ _ _ (@Zo _ 9 _ _ _ _ _ Yc.nd rfl (by trivial) (@Ze _ _ _ _ _ _ _ _ _ call_list_of rfl m.list b_list (Zg (pv 8) Zx rfl) (by trivial) (by trivial) (by trivial) (by trivial)) rfl (by trivial)) (@Zj _ _ _ _ _ (@Yz _ _ _ _ _ _ _ _ (@PW.pt _ _ _ (@pw_or _ _ _ _ _ _ _ (@Zl _ _ _ _ _ _ _ _ op_eqD (pv 8) (@Zu _ _ _ _ _ Zx) (Zh _)) (@pw_or1 _ _ _ _ (@Zl _ _ _ _ _ _ _ _ Yf (@Zy _ _ _ _ _ _ _ _ _ _ g_law_draw hr.m rfl (Zg (pv 0) (Zg Zq Zx rfl) rfl) (by decide) rfl rfl) Zq (Zh _))))) (@Zb _ _ _ (@Zo _ 9 _ _ _ _ _ Yc.nd rfl (by trivial) (@Zy _ _ _ _ _ _ _ _ _ _ g_law_value hr.m rfl (Zg (pv 0) (Zg (pv 1) (Zg (pv 7) (Zg (@Yx _ _ _ _ _ _ _ _ op_sub (pv 3) Zq) Zx rfl) rfl) rfl) rfl) (by decide) rfl rfl) rfl (by trivial))) Za) (@Zj _ _ _ _ _ (@Yz _ _ _ _ _ _ _ _ (@PW.pt _ _ _ (@pw_and _ _ _ _ _ _ _ (@Zl _ _ _ _ _ _ _ _ op_eqD (pv 9) (@Z7 _ _ _ _ Zx) (Zh _)) (@pw_and1 _ _ _ _ (@Zl _ _ _ _ _ _ _ _ op_eqD (pv 8) (@Zu _ _ _ _ _ Zx) (Zh _))))) (@Zb _ _ _ (@Zp _ _ _ _ (@Z7 _ _ _ _ Zx))) Za) (@Zb _ _ _ (@ps_expr _ _ _ _ (@pe_bm _ _ _ _ _ _ _ _ _ _ _ _ PySem.F.plainAttrs_list PySem.F.slot_list_append PySem.F.type_list_append mt_append (pv 4) (Zg (@pe_ifExp _ _ _ _ _ _ _ _ (@Zl _ _ _ _ _ _ _ _ op_neD (pv 9) (@Z7 _ _ _ _ Zx) (Zh _)) (@Zm _ _ _ _ _ _ _ Z1 (pv 9) Zq (fun _ _=>rfl)) (@Zm _ _ _ _ _ _ _ Zt (pv 8) Zq (fun _ _=>rfl))) Zx rfl) (by trivial) (by trivial) (by trivial) (by trivial) (by trivial)) rfl))))) (by trivial)) (@Zb _ _ _ (@Zp _ _ _ _ (@Z7 _ _ _ _ (Zg (@Zu _ _ _ _ _ (Zg (@Ze _ _ _ _ _ _ _ _ _ Zi rfl m.tuple Ya (Zg (pv 4) Zx rfl) (by trivial) (by trivial) (by trivial) (by trivial)) (Zg (@Zu _ _ _ _ _ Zx) Zx rfl) rfl)) Zx rfl)))))), ?_⟩
 obtain ⟨a,ws,rfl,ha,at'⟩:=is
 obtain ⟨w1,w2,w3,rfl,i1,i2,i3⟩:=are3 at'
 obtain ⟨fa,fws,rfl,hfa,afs⟩:=i2
 have uN:A.units+3+16 * k+200<cLine:=hr.un
 have lfw:fws.length=fs.length:=by rw [<-afs.length,List.length_map]
 refine ⟨(sz 0),fun C hC=>?_⟩
 have sC:=Zv.lay (o:=.lst []) hC
 have nCl:C≠l:=fe.ne hC
 refine ⟨_,rfl,a,_,_,_,rfl,rfl,sC.up _ _ ha,Va,fa,rfl,⟨_,sC.up _ _ hfa⟩, ?_⟩
 refine for_tup (K:=K) (xs:=fws) (fun i σ H5=>(∃ o5 o6 o7 o8 o9,σ=[some (.ref l),some (.ref e),some (.ref a),some (.int ((n+1:Nat):Int)),some (.ref C),o5,o6,o7,o8,o9])/\∃ ys es,Rk K l C H ys es (r+(5 - i) * (1+VB n)) H5/\es.map Ent.f=fs.take i/\∀ t∈es,Wr true ms n t.f.y t.u t.w)
  ⟨⟨_,_,_,_,_,rfl⟩,[],[],⟨((Y5.refl fe).same sC).mono (by omega),Zz,rfl⟩,rfl,fun t m=>absurd m List.not_mem_nil⟩ ?_ ?_ ?_
 ·rintro i σ H5 hi ⟨_,ys,es,k5,_⟩
  exact (k5.st.upT (K:=K) fe).tup _ _ hfa
 ·rintro i x σ H5 hx ⟨⟨o5,o6,o7,o8,o9,rfl⟩,ys,es,k5,ef,he⟩
  have hi:i<fs.length:=by rw [<-lfw]; exact (List.getElem?_eq_some_iff.mp hx).1
  have l5:=pr.len
  have eb:(5 - i) * (1+VB n)=(5 - (i+1)) * (1+VB n)+1+VB n:=by rw [show 5 - i=(5 - (i+1))+1 by omega,Nat.add_mul,Nat.one_mul]; omega
  generalize hR:(5 - (i+1)) * (1+VB n)=R at *
  obtain ⟨t,et,it⟩:=afs.got hx
  rw [List.getElem?_map] at et
  obtain ⟨fl,ee,rfl⟩:=Option.map_eq_some_iff.mp et
  have mf:=List.mem_of_getElem? ee
  have u5:=k5.st.upT (K:=K) fe
  obtain ⟨b,bs,rfl,hb,ab⟩:=Zd.up u5 _ _ it
  obtain ⟨b1,b2,b3,b4,rfl,j1,j2,j3,j4⟩:=are4 ab
  cases (show b1=.int fl.n from j1)
  cases (show b2=.str fl.x from j2)
  cases (show b3=.str fl.y from j3)
  obtain ⟨da,dx,rfl,hda,adx⟩:=j4
  have gd1:=opt_gd pr mf
  have dD:∀ {H':Hp},Vc K H5 H'->Vu K H' (thD (.tup fl.d.toList)) (.ref da):=fun u=>Vn _ _ gd1.nq (Zd.up u _ _ ⟨da,dx,rfl,hda,adx⟩)
  have dN:dpD (thD (.tup fl.d.toList))<=100:=by rw [dp_lv]; exact Nat.le_trans gd1.lv (by decide)
  have un0:A.units+3+dpD (thD (.tup fl.d.toList))<cLine:=Nat.lt_of_le_of_lt (Nat.add_le_add_left dN _) (by omega)
  refine ⟨b,_,rfl,hb,rfl,_,_,rfl,_,_,rfl,_,_,rfl,_,_,rfl,rfl, ?_⟩
  refine ⟨_,rfl,da,dx,rfl,.inr hda,fun L1 hL1=>?_⟩
  have s1:=Zv.lay (o:=.lst dx) hL1
  refine ⟨_,rfl,(sz 0),fun e0 h0=>?_⟩
  have s2:=Zv.lay (o:=.tup []) h0
  have k6:=k5.same (s1.trans s2)
  refine ⟨_,.tup [],dD (s1.trans s2).upT,⟨e0,[],rfl,Z6.of Zz,rfl⟩, ?_,_,rfl, ?_⟩
  ·exact un0
  have call:∀ {H':Hp},Vc K H5 H'->MkAt K H' e S ms:=fun u=>mk.up (u5.trans u)
  have arg:[V.ref l,V.ref e,V.str fl.y,V.int (((n+1:Nat):Int) - 1)]=[V.ref l,V.ref e,V.str fl.y,V.int (n:Int)]:=by rw [show ((n+1:Nat):Int) - 1=(n:Int) by omega]
  cases ed:fl.d with
  | none =>
   refine Yh rfl (Yh rfl ?_)
   refine ⟨_,rfl,_,rfl,_,rfl,_,rfl,_,_,rfl,rfl,l,e,S,ms,fl.y,r+R,arg,call (s1.trans s2).upT,mo,pr.y fl mf,k6.st.feed.mono (by omega),fun LX H7 rX nL t7=>?_⟩
   have kX:=k6.step t7 nCl
   have uX:Vc K H5 H7:=(s1.trans s2).upT.trans (t7.upT k6.st.feed)
   clear ed
   refine ⟨_,rfl,(sz 0),fun eA hA=>?_⟩
   have sA:=Zv.lay (o:=.lst []) hA
   have kA:=kX.same sA
   have uA:=uX.trans (sA.upT (K:=K))
   obtain ⟨o,dO,dpO,hO⟩:=resD mo hn (rX.same sA)
   have un1:A.units+3+dpD (rD o)<cLine:=Nat.lt_of_le_of_lt (Nat.add_le_add_left dpO _) (by omega)
   have wl:ys.length<sizeLine:=by
    have z:=congrArg List.length ef
    rw [List.length_map,List.length_take] at z
    rw [<-kA.a.length,List.length_map]
    exact Yq (by omega)
   rcases hO with ⟨rfl,hO⟩ | ⟨v,u,w,rfl,hO,iO,qO⟩
   ·refine ⟨rD none,.lst [],dO,⟨eA,[],rfl,Z0.of Zz,rfl⟩,un1,_,rfl,Yh rfl ?_⟩
    refine ⟨_,rfl,(sz 0),fun eB hB=>?_⟩
    have sB:=Zv.lay (o:=.tup []) hB
    have kB:=kA.same sB
    have uB:=uA.trans (sB.upT (K:=K))
    refine ⟨_,.tup [],dD uB,⟨eB,[],rfl,Z6.of Zz,rfl⟩,un0,_,rfl, ?_⟩
    cases ed:fl.d with
    | none =>
     refine Yh rfl ⟨(sz 0),fun p hp=>?_⟩
     exact q p _ (.inl Zz) (kB.st.free hp) ((kB.st.lay hp).mono (by omega))
    | some d0 =>
     refine Z5 rfl ?_
     rw [ed] at adx
     obtain ⟨v0,rfl,i0⟩:=are1 adx
     obtain ⟨s0,es0,pv0⟩:=pr.d fl mf d0 ed
     obtain ⟨w0,hw0⟩:=pv_wr (own:=true) (n:=n) es0 pv0
     refine ⟨_,rfl,.inl ⟨rfl,_,Z0.of kB.c⟩,_,rfl,(sz 0),fun eC hC'=>?_⟩
     have sE:=Zv.lay (o:=.lst []) hC'
     have kC:=kB.same sE
     have uC:=uB.trans (sE.upT (K:=K))
     refine ⟨rD none,.lst [],⟨_,[],rfl,Z0.of ((sB.trans sE) _ _ hO),rfl⟩,⟨eC,[],rfl,Z0.of Zz,rfl⟩,un1,_,rfl,Z5 rfl ?_⟩
     refine ⟨_,rfl,da,_,_,_,rfl,rfl,uC.tup _ _ hda,at0, ?_⟩
     refine ⟨C,ys,_,rfl,rfl,kC.c,wl,⟨_,_,_,_,_,rfl⟩,ys++[v0],es++[⟨fl,d0,w0⟩],⟨(kC.st.put hC (fe.far hC)).mono (by omega),Zz, ?_⟩, ?_, ?_⟩
     ·rw [List.map_append]
      have uS:Vc K _ (Z3 _ C (.lst (ys++[v0]))):=Yv kC.c
      exact Zw.append (Zw.up uS _ _ kC.a) (Zw.one (Zd.up uS _ _ (Zd.up uC _ _ i0)))
     ·rw [List.map_append,ef,Zr ee]; rfl
     ·intro t mt
      rcases List.mem_append.mp mt with mt | mt
      ·exact he t mt
      ·rw [List.mem_singleton.mp mt]; exact hw0
   ·refine ⟨rD (some u),.lst [],dO,⟨eA,[],rfl,Z0.of Zz,rfl⟩,un1,_,rfl,Z5 rfl (iteF ?_)⟩
    refine ⟨_,rfl,.inl ⟨rfl,_,Z0.of kA.c⟩,_,rfl,(sz 0),fun eC hC'=>?_⟩
    have sE:=Zv.lay (o:=.lst []) hC'
    have kC:=kA.same sE
    have gu:=(Wr.gd mo qO).1
    refine ⟨rD (some u),.lst [],⟨_,[v],rfl,Z0.of (sE _ _ hO),v,[],rfl,Vn _ _ gu.nq (Zd.up sE.upT _ _ iO),rfl⟩,⟨eC,[],rfl,Z0.of Zz,rfl⟩,un1,_,rfl,Yh rfl ?_⟩
    refine ⟨_,rfl,_,_,_,_,rfl,rfl,Z0.of (sE _ _ hO),at0, ?_⟩
    refine ⟨C,ys,_,rfl,rfl,kC.c,wl,⟨_,_,_,_,_,rfl⟩,ys++[v],es++[⟨fl,u,w⟩],⟨(kC.st.put hC (fe.far hC)).mono (by omega),Zz, ?_⟩, ?_, ?_⟩
    ·rw [List.map_append]
     have uS:Vc K _ (Z3 _ C (.lst (ys++[v]))):=Yv kC.c
     exact Zw.append (Zw.up uS _ _ kC.a) (Zw.one (Zd.up uS _ _ (Zd.up sE.upT _ _ iO)))
    ·rw [List.map_append,ef,Zr ee]; rfl
    ·intro t mt
     rcases List.mem_append.mp mt with mt | mt
     ·exact he t mt
     ·rw [List.mem_singleton.mp mt]; exact qO
  | some d1 =>
   refine Z5 rfl ?_
   refine ⟨_,rfl,l,2,r+R+VB n,rfl,k6.st.feed.mono (by omega),by decide,by decide,fun z H7 z0 z1 t7=>⟨rfl,_,rfl, ?_⟩⟩
   have k7:=k6.step t7 nCl
   have u7:Vc K H5 H7:=(s1.trans s2).upT.trans (t7.upT k6.st.feed)
   refine V1 (fun c=>?_) (fun c=>?_)
   ·refine ⟨_,rfl,_,rfl,_,rfl,_,rfl,_,_,rfl,rfl,l,e,S,ms,fl.y,r+R,arg,call u7,mo,pr.y fl mf,k7.st.feed.mono (by omega),fun LX H8 rX nL t8=>?_⟩
    have kX:=k7.step t8 nCl
    have uX:Vc K H5 H8:=u7.trans (t8.upT k7.st.feed)
    clear ed
    refine ⟨_,rfl,(sz 0),fun eA hA=>?_⟩
    have sA:=Zv.lay (o:=.lst []) hA
    have kA:=kX.same sA
    have uA:=uX.trans (sA.upT (K:=K))
    obtain ⟨o,dO,dpO,hO⟩:=resD mo hn (rX.same sA)
    have un1:A.units+3+dpD (rD o)<cLine:=Nat.lt_of_le_of_lt (Nat.add_le_add_left dpO _) (by omega)
    have wl:ys.length<sizeLine:=by
     have z:=congrArg List.length ef
     rw [List.length_map,List.length_take] at z
     rw [<-kA.a.length,List.length_map]
     exact Yq (by omega)
    rcases hO with ⟨rfl,hO⟩ | ⟨v,u,w,rfl,hO,iO,qO⟩
    ·refine ⟨rD none,.lst [],dO,⟨eA,[],rfl,Z0.of Zz,rfl⟩,un1,_,rfl,Yh rfl ?_⟩
     refine ⟨_,rfl,(sz 0),fun eB hB=>?_⟩
     have sB:=Zv.lay (o:=.tup []) hB
     have kB:=kA.same sB
     have uB:=uA.trans (sB.upT (K:=K))
     refine ⟨_,.tup [],dD uB,⟨eB,[],rfl,Z6.of Zz,rfl⟩,un0,_,rfl, ?_⟩
     cases ed:fl.d with
     | none =>
      refine Yh rfl ⟨(sz 0),fun p hp=>?_⟩
      exact q p _ (.inl Zz) (kB.st.free hp) ((kB.st.lay hp).mono (by omega))
     | some d0 =>
      refine Z5 rfl ?_
      rw [ed] at adx
      obtain ⟨v0,rfl,i0⟩:=are1 adx
      obtain ⟨s0,es0,pv0⟩:=pr.d fl mf d0 ed
      obtain ⟨w0,hw0⟩:=pv_wr (own:=true) (n:=n) es0 pv0
      refine ⟨_,rfl,.inl ⟨rfl,_,Z0.of kB.c⟩,_,rfl,(sz 0),fun eC hC'=>?_⟩
      have sE:=Zv.lay (o:=.lst []) hC'
      have kC:=kB.same sE
      have uC:=uB.trans (sE.upT (K:=K))
      refine ⟨rD none,.lst [],⟨_,[],rfl,Z0.of ((sB.trans sE) _ _ hO),rfl⟩,⟨eC,[],rfl,Z0.of Zz,rfl⟩,un1,_,rfl,Z5 rfl ?_⟩
      refine ⟨_,rfl,da,_,_,_,rfl,rfl,uC.tup _ _ hda,at0, ?_⟩
      refine ⟨C,ys,_,rfl,rfl,kC.c,wl,⟨_,_,_,_,_,rfl⟩,ys++[v0],es++[⟨fl,d0,w0⟩],⟨(kC.st.put hC (fe.far hC)).mono (by omega),Zz, ?_⟩, ?_, ?_⟩
      ·rw [List.map_append]
       have uS:Vc K _ (Z3 _ C (.lst (ys++[v0]))):=Yv kC.c
       exact Zw.append (Zw.up uS _ _ kC.a) (Zw.one (Zd.up uS _ _ (Zd.up uC _ _ i0)))
      ·rw [List.map_append,ef,Zr ee]; rfl
      ·intro t mt
       rcases List.mem_append.mp mt with mt | mt
       ·exact he t mt
       ·rw [List.mem_singleton.mp mt]; exact hw0
    ·refine ⟨rD (some u),.lst [],dO,⟨eA,[],rfl,Z0.of Zz,rfl⟩,un1,_,rfl,Z5 rfl (iteF ?_)⟩
     refine ⟨_,rfl,.inl ⟨rfl,_,Z0.of kA.c⟩,_,rfl,(sz 0),fun eC hC'=>?_⟩
     have sE:=Zv.lay (o:=.lst []) hC'
     have kC:=kA.same sE
     have gu:=(Wr.gd mo qO).1
     refine ⟨rD (some u),.lst [],⟨_,[v],rfl,Z0.of (sE _ _ hO),v,[],rfl,Vn _ _ gu.nq (Zd.up sE.upT _ _ iO),rfl⟩,⟨eC,[],rfl,Z0.of Zz,rfl⟩,un1,_,rfl,Yh rfl ?_⟩
     refine ⟨_,rfl,_,_,_,_,rfl,rfl,Z0.of (sE _ _ hO),at0, ?_⟩
     refine ⟨C,ys,_,rfl,rfl,kC.c,wl,⟨_,_,_,_,_,rfl⟩,ys++[v],es++[⟨fl,u,w⟩],⟨(kC.st.put hC (fe.far hC)).mono (by omega),Zz, ?_⟩, ?_, ?_⟩
     ·rw [List.map_append]
      have uS:Vc K _ (Z3 _ C (.lst (ys++[v]))):=Yv kC.c
      exact Zw.append (Zw.up uS _ _ kC.a) (Zw.one (Zd.up uS _ _ (Zd.up sE.upT _ _ iO)))
     ·rw [List.map_append,ef,Zr ee]; rfl
     ·intro t mt
      rcases List.mem_append.mp mt with mt | mt
      ·exact he t mt
      ·rw [List.mem_singleton.mp mt]; exact qO
   ·have kX:=k7.mono (r':=r+R) (by omega)
    have uX:=u7
    have rX:Res K H7 (Wr true ms n fl.y) L1:=by
     rw [ed] at adx
     obtain ⟨v0,rfl,i0⟩:=are1 adx
     obtain ⟨s0,es0,pv0⟩:=pr.d fl mf d1 ed
     obtain ⟨w0,hw0⟩:=pv_wr (own:=true) (n:=n) es0 pv0
     have rr:Res K _ (Wr true ms n fl.y) L1:=.inr ⟨v0,d1,w0,s2 _ _ Zz,Zd.up (s1.trans s2).upT _ _ i0,hw0⟩
     exact rr.step k6.st.feed t7
    clear ed
    refine ⟨_,rfl,(sz 0),fun eA hA=>?_⟩
    have sA:=Zv.lay (o:=.lst []) hA
    have kA:=kX.same sA
    have uA:=uX.trans (sA.upT (K:=K))
    obtain ⟨o,dO,dpO,hO⟩:=resD mo hn (rX.same sA)
    have un1:A.units+3+dpD (rD o)<cLine:=Nat.lt_of_le_of_lt (Nat.add_le_add_left dpO _) (by omega)
    have wl:ys.length<sizeLine:=by
     have z:=congrArg List.length ef
     rw [List.length_map,List.length_take] at z
     rw [<-kA.a.length,List.length_map]
     exact Yq (by omega)
    rcases hO with ⟨rfl,hO⟩ | ⟨v,u,w,rfl,hO,iO,qO⟩
    ·refine ⟨rD none,.lst [],dO,⟨eA,[],rfl,Z0.of Zz,rfl⟩,un1,_,rfl,Yh rfl ?_⟩
     refine ⟨_,rfl,(sz 0),fun eB hB=>?_⟩
     have sB:=Zv.lay (o:=.tup []) hB
     have kB:=kA.same sB
     have uB:=uA.trans (sB.upT (K:=K))
     refine ⟨_,.tup [],dD uB,⟨eB,[],rfl,Z6.of Zz,rfl⟩,un0,_,rfl, ?_⟩
     cases ed:fl.d with
     | none =>
      refine Yh rfl ⟨(sz 0),fun p hp=>?_⟩
      exact q p _ (.inl Zz) (kB.st.free hp) ((kB.st.lay hp).mono (by omega))
     | some d0 =>
      refine Z5 rfl ?_
      rw [ed] at adx
      obtain ⟨v0,rfl,i0⟩:=are1 adx
      obtain ⟨s0,es0,pv0⟩:=pr.d fl mf d0 ed
      obtain ⟨w0,hw0⟩:=pv_wr (own:=true) (n:=n) es0 pv0
      refine ⟨_,rfl,.inl ⟨rfl,_,Z0.of kB.c⟩,_,rfl,(sz 0),fun eC hC'=>?_⟩
      have sE:=Zv.lay (o:=.lst []) hC'
      have kC:=kB.same sE
      have uC:=uB.trans (sE.upT (K:=K))
      refine ⟨rD none,.lst [],⟨_,[],rfl,Z0.of ((sB.trans sE) _ _ hO),rfl⟩,⟨eC,[],rfl,Z0.of Zz,rfl⟩,un1,_,rfl,Z5 rfl ?_⟩
      refine ⟨_,rfl,da,_,_,_,rfl,rfl,uC.tup _ _ hda,at0, ?_⟩
      refine ⟨C,ys,_,rfl,rfl,kC.c,wl,⟨_,_,_,_,_,rfl⟩,ys++[v0],es++[⟨fl,d0,w0⟩],⟨(kC.st.put hC (fe.far hC)).mono (by omega),Zz, ?_⟩, ?_, ?_⟩
      ·rw [List.map_append]
       have uS:Vc K _ (Z3 _ C (.lst (ys++[v0]))):=Yv kC.c
       exact Zw.append (Zw.up uS _ _ kC.a) (Zw.one (Zd.up uS _ _ (Zd.up uC _ _ i0)))
      ·rw [List.map_append,ef,Zr ee]; rfl
      ·intro t mt
       rcases List.mem_append.mp mt with mt | mt
       ·exact he t mt
       ·rw [List.mem_singleton.mp mt]; exact hw0
    ·refine ⟨rD (some u),.lst [],dO,⟨eA,[],rfl,Z0.of Zz,rfl⟩,un1,_,rfl,Z5 rfl (iteF ?_)⟩
     refine ⟨_,rfl,.inl ⟨rfl,_,Z0.of kA.c⟩,_,rfl,(sz 0),fun eC hC'=>?_⟩
     have sE:=Zv.lay (o:=.lst []) hC'
     have kC:=kA.same sE
     have gu:=(Wr.gd mo qO).1
     refine ⟨rD (some u),.lst [],⟨_,[v],rfl,Z0.of (sE _ _ hO),v,[],rfl,Vn _ _ gu.nq (Zd.up sE.upT _ _ iO),rfl⟩,⟨eC,[],rfl,Z0.of Zz,rfl⟩,un1,_,rfl,Yh rfl ?_⟩
     refine ⟨_,rfl,_,_,_,_,rfl,rfl,Z0.of (sE _ _ hO),at0, ?_⟩
     refine ⟨C,ys,_,rfl,rfl,kC.c,wl,⟨_,_,_,_,_,rfl⟩,ys++[v],es++[⟨fl,u,w⟩],⟨(kC.st.put hC (fe.far hC)).mono (by omega),Zz, ?_⟩, ?_, ?_⟩
     ·rw [List.map_append]
      have uS:Vc K _ (Z3 _ C (.lst (ys++[v]))):=Yv kC.c
      exact Zw.append (Zw.up uS _ _ kC.a) (Zw.one (Zd.up uS _ _ (Zd.up sE.upT _ _ iO)))
     ·rw [List.map_append,ef,Zr ee]; rfl
     ·intro t mt
      rcases List.mem_append.mp mt with mt | mt
      ·exact he t mt
      ·rw [List.mem_singleton.mp mt]; exact qO
 ·rintro σ H5 ⟨⟨o5,o6,o7,o8,o9,rfl⟩,ys,es,k5,ef,he⟩
  rw [lfw,List.take_length] at ef
  subst ef
  refine ⟨_,rfl,C,_,rfl,.inl ⟨Z0.of k5.c,fun p1 hp1=>?_⟩⟩
  have s1:=Zv.lay (o:=.tup ys) hp1
  refine ⟨(sz 0),fun p2 hp2=>⟨(sz 2),fun p3 hp3=>⟨(sz 1),fun p4 hp4=>?_⟩⟩⟩
  have s2:=Zv.lay (o:=.tup []) hp2
  have s3:=Zv.lay (o:=.tup [.ref p1,.ref p2]) hp3
  have s4:=Zv.lay (o:=.lst [.ref p3]) hp4
  have s24:=s2.trans (s3.trans s4)
  have s14:=s1.trans s24
  obtain ⟨w,hw⟩:=mk_rec (us:=us) he (os:=[]) ⟨fun _=>rfl,List.nodup_nil,Nat.zero_le _,fun o m=>absurd m List.not_mem_nil⟩
  refine q p4 _ (.inr ⟨_,.tup [.tup (es.map Ent.u),.tup []],w,Zz,⟨p3,_,rfl,s4.up _ _ (Z6.of Zz),_,_,rfl,⟨p1,ys,rfl,s24.up _ _ (Z6.of Zz),Zw.up s14.upT _ _ k5.a⟩,_,_,rfl,⟨p2,[],rfl,(s3.trans s4).up _ _ (Z6.of Zz),rfl⟩,rfl⟩,hw⟩) ?_ ((k5.st.same s14).mono (by omega))
  exact k5.st.free (s1.free (s2.free (s3.free hp4)))
end
abbrev Vp:Stmt:=top 17
abbrev N_law_value:List Str:=["_law_feed_here","_law_make_here","_law_name","_law_deep","_law_shape","_law_keys","_law_some","_law_first","_law_k","_law_number","_law_inner"]
theorem Yb:Yk N_law_value ["_law_feed_here","_law_make_here","_law_name","_law_deep"] (Zf Vp):=by trivial
theorem VB_le:∀ n,10<=VB n
 | 0=>Nat.le_refl _
 | n+1=>by show 10<=10+6 * VB n; omega
theorem cut_map (ns:List Str) (lo hi:Option Int):∃ ks:List Str,cutV (ns.map V.str) lo hi=ks.map V.str/\ks.Sublist ns:=by
 unfold cutV
 rw [List.length_map]
 refine ⟨(ns.drop (HT.Vb ns.length 0 lo)).take (HT.Vb ns.length ns.length hi - HT.Vb ns.length 0 lo), ?_,(List.take_sublist _ _).trans (List.drop_sublist _ _)⟩
 rw [List.map_take,List.map_drop]
def HasE (K:PySem.W.Frag) (H:Hp) (W:Th->Th->Prop) (e:Kuw) (L:Addr):Prop:=∃ v,H L=some (.lst [v])/\Zd K H e.u v/\W e.u e.w
theorem allOr {K:PySem.W.Frag} {H:Hp} {W:Th->Th->Prop} (hW:∀ u w,W u w->nqT u/\dpD (thD u)<=99):∀ {Ls:List Addr} {ks:List Str},ks.length=Ls.length->(∀ L∈Ls,Res K H W L)->∃ os:List (Option Th),Yd K H (os.map rD) (Ls.map V.ref)/\(∀ o∈os,dpD (rD o)<=100)/\((os.any fun o=>o.isNone)=true\/((os.any fun o=>o.isNone)=false/\∃ es:List Kuw,es.map Kuw.k=ks/\Paired (HasE K H W) es Ls))
 | [],ks,hk,_=>by
  cases ks with
  | nil=>exact ⟨[],rfl,fun o m=>absurd m List.not_mem_nil,.inr ⟨rfl,[],rfl,.nil⟩⟩
  | cons _ _=>cases hk
 | L::Ls,ks,hk,h=>by
  cases ks with
  | nil=>cases hk
  | cons k ks =>
   obtain ⟨os,ad,dp,alt⟩:=allOr hW (ks:=ks) (Nat.succ.inj hk) fun x m=>h x (List.mem_cons_of_mem _ m)
   rcases h L List.mem_cons_self with e | ⟨v,u,w,e,i,q⟩
   ·refine ⟨none::os,⟨_,_,rfl,⟨L,[],rfl,Z0.of e,rfl⟩,ad⟩,fun o m=>?_,.inl rfl⟩
    rcases List.mem_cons.mp m with rfl | m
    ·decide
    ·exact dp o m
   ·obtain ⟨nq,d99⟩:=hW u w q
    refine ⟨some u::os,⟨_,_,rfl,⟨L,[v],rfl,Z0.of e,v,[],rfl,Vn _ _ nq i,rfl⟩,ad⟩,fun o m=>?_, ?_⟩
    ·rcases List.mem_cons.mp m with rfl | m
     ·show max (dpD (thD u)) 0+1<=100
      omega
     ·exact dp o m
    ·rcases alt with a | ⟨a,es,ek,pd⟩
     ·exact .inl a
     ·exact .inr ⟨a,⟨k,u,w⟩::es,by rw [List.map_cons,ek],.cons ⟨v,e,i,q⟩ pd⟩
theorem any_none (os:List (Option Th)):((os.map rD).any fun e=>eqD e (.lst []))=os.any fun o=>o.isNone:=by
 induction os with
 | nil=>rfl
 | cons o os ih =>
  rw [List.map_cons,List.any_cons,List.any_cons,ih]
  cases o with
  | none=>rfl
  | some u=>rfl
theorem hasE_at {K:PySem.W.Frag} {H:Hp} {W:Th->Th->Prop}:∀ {es:List Kuw} {Ls:List Addr} {i:Nat} {L:Addr},Paired (HasE K H W) es Ls->Ls[i]?=some L->∃ e,es[i]?=some e/\HasE K H W e L
 | _,_,i,L,.nil,h=>by simp at h
 | e::es,M::Ls,i,L,.cons r t,h=>by
  cases i with
  | zero =>
   simp only [List.getElem?_cons_zero,Option.some.injEq] at h
   subst h
   exact ⟨e,rfl,r⟩
  | succ i =>
   simp only [List.getElem?_cons_succ] at h ⊢
   exact hasE_at t h
theorem hasE_all {K:PySem.W.Frag} {H:Hp} {W:Th->Th->Prop}:∀ {es:List Kuw} {Ls:List Addr},Paired (HasE K H W) es Ls->∀ e∈es,W e.u e.w
 | _,_,.nil,e,m=>absurd m List.not_mem_nil
 | _,_,.cons r t,e,m=>by
  rcases List.mem_cons.mp m with rfl | m
  ·exact r.elim fun v z=>z.2.2
  ·exact hasE_all t e m
theorem wr'_dp {own:Bool} {ms:List (Str × Yr)} (mo:MkOk ms):∀ {n:Nat},n<=4->∀ {x:Str} (u w:Th),Wr' own ms n x u w->nqT u/\dpD (thD u)<=99
 | 0,_,_,_,_,h=>False.elim h
 | n+1,hn,_,_,_,h=>by
  have g:=(Wr.gd mo (n:=n) h).1
  refine ⟨g.nq, ?_⟩
  rw [dp_lv]
  have:=g.lv
  omega
theorem inr_all {cs:List Str}:∀ {us:List Yt},(∀ z∈us,z∈cs.map (Sum.inr:Str->Yt))->∃ zs:List Str,us=zs.map Sum.inr/\∀ z∈zs,z∈cs
 | [],_=>⟨[],rfl,fun z m=>absurd m List.not_mem_nil⟩
 | u::us,h=>by
  obtain ⟨c,mc,rfl⟩:=List.mem_map.mp (h u List.mem_cons_self)
  obtain ⟨zs,rfl,hz⟩:=inr_all (us:=us) fun z m=>h z (List.mem_cons_of_mem _ m)
  refine ⟨c::zs,rfl,fun z m=>?_⟩
  rcases List.mem_cons.mp m with rfl | m
  ·exact mc
  ·exact hz z m
section
variable {P:Program} {w:World} {K:W.Frag} {mg:Str->Option Value} {base:Heap} {f:Addr} {fd:FuncData}
theorem ok_value {k n:Nat} (hn:n<=3) (k2:2<=k) (F:Fun K "_law_value" "_law_value" Vp f fd) (m:Bn mg) (g_law_draw:Fn P w K mg base 1 "_law_draw" ["_law_feed_here","_law_many"] spDraw) (g_law_names:Fn P w K mg base 2 "_law_names" ["_law_feed_here","_law_many"] spNames) (g_law_plain_value:Fn P w K mg base 2 "_law_plain_value" ["_law_feed_here","_law_shape"] (spPlainV K)) (g_law_value:Fn P w K mg base k "_law_value" ["_law_feed_here","_law_make_here","_law_name","_law_deep"] (spVal' K n)) (g_law_record:Fn P w K mg base (k+1) "_law_record" ["_law_feed_here","_law_make_here","_law_shape","_law_deep"] (spRec' K n)):Y4 P w K mg base CX0 (k+2) f fd ["_law_feed_here","_law_make_here","_law_name","_law_deep"] (spVal K n):=by
 refine F.ok Yb (fun vs H Q E h=>?_) (fun cdv A outer s H vs Q E hr h=>?_)
 ·obtain ⟨l,e,S,ms,x,r,rfl,_⟩:=h
  rfl
 obtain ⟨l,e,S,ms,x,r,rfl,mk,mo,ix,fe,q⟩:=h
 refine ⟨_,(@Zj _ _ _ _ _ (@Zo _ 4 _ _ _ _ _ Yb.nd rfl (by trivial) (@pe_dget _ _ _ _ _ _ (hu_of hr) (@Zm _ _ _ _ _ _ _ Zt (pv 1) Zq (fun _ _=>rfl)) (pv 2) (fun _ _=>rfl)) rfl (by trivial)) (@Zj _ _ _ _ _ (@Yz _ _ _ _ _ _ _ _ (@Zl _ _ _ _ _ _ _ _ op_in_seq (@Zm _ _ _ _ _ _ _ Zt (pv 4) Zq (fun _ _=>rfl)) (@Zu _ _ _ _ _ (Zg Zc (Zg Zc (Zg Zc Zx rfl) rfl) rfl)) rfl) (@Zb _ _ _ (@Zp _ _ _ _ (@Z7 _ _ _ _ (Zg (@Zy _ _ _ _ _ _ _ _ _ _ g_law_plain_value hr.m rfl (Zg (pv 0) (Zg (pv 4) Zx rfl) rfl) (by decide) rfl rfl) Zx rfl)))) Za) (@Zj _ _ _ _ _ (@Yz _ _ _ _ _ _ _ _ (@Zl _ _ _ _ _ _ _ _ op_in_seq (@Zm _ _ _ _ _ _ _ Zt (pv 4) Zq (fun _ _=>rfl)) (@Zu _ _ _ _ _ (Zg Zc (Zg Zc Zx rfl) rfl)) rfl) (@Zj _ _ _ _ _ (@Zo _ 5 _ _ _ _ _ Yb.nd rfl (by trivial) (@pe_slice _ _ _ _ _ _ _ _ _ _ sl_list (@Yy _ _ _ _ _ _ _ _ _ (call_sortedS rfl) rfl m.sorted b_sorted (Zg (@Ze _ _ _ _ _ _ _ _ _ (call_setK rfl) rfl m.set b_set (Zg (@Zy _ _ _ _ _ _ _ _ _ _ g_law_names hr.m rfl (Zg (pv 0) (Zg (@Yx _ _ _ _ _ _ _ _ op_mul (@Zy _ _ _ _ _ _ _ _ _ _ g_law_draw hr.m rfl (Zg (pv 0) (Zg Zq Zx rfl) rfl) (by decide) rfl rfl) (@Ze _ _ _ _ _ _ _ _ _ call_int1 rfl m.int b_int (Zg (@pe_cmpR _ _ _ _ _ _ _ _ op_gt (pv 3) Zq (Zh _)) Zx rfl) (by trivial) (by trivial) (by trivial) (by trivial))) Zx rfl) rfl) (by decide) rfl rfl) Zx rfl) (by trivial) (by trivial) (by trivial) (by trivial)) Zx rfl) (by decide) (by decide) rfl rfl) (@po_none _) (@po_some _ _ _ (@Zm _ _ _ _ _ _ _ Zt (pv 4) Zq (fun _ _=>rfl)))) rfl (by trivial)) (@Zj _ _ _ _ _ (@Zo _ 6 _ _ _ _ _ Yb.nd rfl (by trivial) (@Yw _ N_law_value (Zf Vp) ["_law_key","_law_feed_here","_law_make_here","_law_shape","_law_deep"] [none,some 0,some 1,some 4,some 3] _ _ _ _ _ _ _ _ _ _ rfl (@Vj _ _ _ _ (pv 5)) ⟨rfl,rfl,by decide +kernel,by decide +kernel⟩ (fun _ _ _=>(@Zn _ 0 _ _ (show List.Nodup (["_law_key","_law_feed_here","_law_make_here","_law_shape","_law_deep"]:List Str) from by decide +kernel) rfl (Or.inl rfl) (by trivial))) (fun _ _ _=>Yn) (fun _ _ _=>(@Zy _ _ _ _ _ _ _ _ _ _ g_law_value hr.m rfl (Zg (pv 1) (Zg (pv 2) (Zg (@Zm _ _ _ _ _ _ _ Zt (pv 3) Zq (fun _ _=>rfl)) (Zg (@Yx _ _ _ _ _ _ _ _ op_sub (pv 4) Zq) Zx rfl) rfl) rfl) rfl) (by decide) rfl rfl)) (by trivial)) rfl (by trivial)) (@Zj _ _ _ _ _ (@Yz _ _ _ _ _ _ _ _ (@Zl _ _ _ _ _ _ _ _ op_inD (@Z7 _ _ _ _ Zx) (pv 6) rfl) (@Zb _ _ _ (@Zp _ _ _ _ (@Z7 _ _ _ _ (Zg (@Zu _ _ _ _ _ Zx) Zx rfl)))) Za) (@Zj _ _ _ _ _ (@Yz _ _ _ _ _ _ _ _ (@Zl _ _ _ _ _ _ _ _ Yf (@Zm _ _ _ _ _ _ _ Zt (pv 4) Zq (fun _ _=>rfl)) Zc (Zh _)) (@Zb _ _ _ (@Zp _ _ _ _ (@Z7 _ _ _ _ (Zg (@Ze _ _ _ _ _ _ _ _ _ Zi rfl m.tuple Ya (Zg (@Yw _ N_law_value (Zf Vp) ["_law_one"] [none] _ _ _ _ _ _ _ _ _ _ rfl (@Vj _ _ _ _ (pv 6)) ⟨rfl,rfl,by decide +kernel,by decide +kernel⟩ (fun _ _ _=>(@Zn _ 0 _ _ (show List.Nodup (["_law_one"]:List Str) from by decide +kernel) rfl (Or.inl rfl) (by trivial))) (fun _ _ _=>Yn) (fun _ _ _=>(@Zm _ _ _ _ _ _ _ Z1 (pv 0) Zq (fun _ _=>rfl))) (by trivial)) Zx rfl) (by trivial) (by trivial) (by trivial) (by trivial)) Zx rfl)))) Za) (@Zb _ _ _ (@Zp _ _ _ _ (@Z7 _ _ _ _ (Zg (@Ze _ _ _ _ _ _ _ _ _ Zi rfl m.tuple Ya (Zg (@Yw _ N_law_value (Zf Vp) ["_law_k","_law_keys","_law_some"] [none,some 5,some 6] _ _ _ _ _ _ _ _ _ _ rfl (@pi_range1 _ _ _ _ _ _ rfl m.range (Zg (@Yy _ _ _ _ _ _ _ _ _ Yl rfl m.len b_len (Zg (pv 5) Zx rfl) (by decide) (by decide) rfl rfl) Zx rfl) (by trivial)) ⟨rfl,rfl,by decide +kernel,by decide +kernel⟩ (fun _ _ _=>(@Zn _ 0 _ _ (show List.Nodup (["_law_k","_law_keys","_law_some"]:List Str) from by decide +kernel) rfl (Or.inl rfl) (by trivial))) (fun _ _ _=>Yn) (fun _ _ _=>(@Zu _ _ _ _ _ (Zg (@Zm _ _ _ _ _ _ _ Z1 (pv 1) (pv 0) (fun _ _=>rfl)) (Zg (@Zm _ _ _ _ _ _ _ Z1 (@Zm _ _ _ _ _ _ _ Z1 (pv 2) (pv 0) (fun _ _=>rfl)) Zq (fun _ _=>rfl)) Zx rfl) rfl))) (by trivial)) Zx rfl) (by trivial) (by trivial) (by trivial) (by trivial)) Zx rfl)))))))) Za) (@Zj _ _ _ _ _ (@Yz _ _ _ _ _ _ _ _ (@Zl _ _ _ _ _ _ _ _ op_lt (pv 3) Zq (Zh _)) (@Zb _ _ _ (@Zp _ _ _ _ (@Z7 _ _ _ _ Zx))) Za) (@Zj _ _ _ _ _ (@Yz _ _ _ _ _ _ _ _ (@Zl _ _ _ _ _ _ _ _ Yf (@Zm _ _ _ _ _ _ _ Zt (pv 4) Zq (fun _ _=>rfl)) Zc (Zh _)) (@Zb _ _ _ (@Zp _ _ _ _ (@Zy _ _ _ _ _ _ _ _ _ _ g_law_record hr.m rfl (Zg (pv 0) (Zg (pv 1) (Zg (pv 4) (Zg (pv 3) Zx rfl) rfl) rfl) rfl) (by decide) rfl rfl))) Za) (@Zj _ _ _ _ _ (@Zo _ 7 _ _ _ _ _ Yb.nd rfl (by trivial) (@Zy _ _ _ _ _ _ _ _ _ _ g_law_draw hr.m rfl (Zg (pv 0) (Zg Zq Zx rfl) rfl) (by decide) rfl rfl) rfl (by trivial)) (@Zj _ _ _ _ _ (@ps_for _ _ _ _ _ _ _ _ PassesOwn.never rfl (@pi_range1 _ _ _ _ _ _ rfl m.range (Zg (@Yy _ _ _ _ _ _ _ _ _ Yl rfl m.len b_len (Zg (@Zm _ _ _ _ _ _ _ Zt (pv 4) Zq (fun _ _=>rfl)) Zx rfl) (by decide) (by decide) rfl rfl) Zx rfl) (by trivial)) (@Zn _ 8 _ _ Yb.nd rfl (by trivial) (by trivial)) (@Zj _ _ _ _ _ (@ps_asg _ _ _ _ _ _ (@Zm _ _ _ _ _ _ _ Zt (@Zm _ _ _ _ _ _ _ Zt (pv 4) Zq (fun _ _=>rfl)) (@Yx _ _ _ _ _ _ _ _ op_mod (@Yx _ _ _ _ _ _ _ _ op_add (pv 7) (pv 8)) (@Yy _ _ _ _ _ _ _ _ _ Yl rfl m.len b_len (Zg (@Zm _ _ _ _ _ _ _ Zt (pv 4) Zq (fun _ _=>rfl)) Zx rfl) (by decide) (by decide) rfl rfl)) (fun _ _=>rfl)) (@pg_tup _ _ _ _ _ _ rfl (@Yj _ _ _ _ _ (@Zn _ 9 _ _ Yb.nd rfl (by trivial) (by trivial)) (@Yj _ _ _ _ _ (@Zn _ 2 _ _ Yb.nd rfl (by trivial) (by trivial)) (@Yj _ _ _ _ _ (@Zn _ 10 _ _ Yb.nd rfl (by trivial) (by trivial)) pgs_nil (by trivial)) (by trivial)) (by trivial)) (by trivial) (by trivial)) (by trivial) (by trivial) (by trivial)) (@Zj _ _ _ _ _ (@Zo _ 6 _ _ _ _ _ Yb.nd rfl (by trivial) (@Zy _ _ _ _ _ _ _ _ _ _ g_law_value hr.m rfl (Zg (pv 0) (Zg (pv 1) (Zg (pv 10) (Zg (@Yx _ _ _ _ _ _ _ _ op_sub (pv 3) Zq) Zx rfl) rfl) rfl) rfl) (by decide) rfl rfl) rfl (by trivial)) (@Zb _ _ _ (@Yz _ _ _ _ _ _ _ _ (@Zl _ _ _ _ _ _ _ _ op_neD (pv 6) (@Z7 _ _ _ _ Zx) (Zh _)) (@Zb _ _ _ (@Zp _ _ _ _ (@Z7 _ _ _ _ (Zg (@Zu _ _ _ _ _ (Zg Zc (Zg (pv 9) (Zg (@Zm _ _ _ _ _ _ _ Z1 (pv 6) Zq (fun _ _=>rfl)) Zx rfl) rfl) rfl)) Zx rfl)))) Za)))) (by trivial)) (@Zb _ _ _ (@Zp _ _ _ _ (@Z7 _ _ _ _ Zx)))))))))), ?_⟩
 obtain ⟨sh,es⟩:=Option.isSome_iff_exists.mp ix
 obtain ⟨v0,he⟩:=mk.e
 obtain ⟨kvs,sv,hS,ev,isv⟩:=mk.get es
 have uN:A.units+3+16 * (k+1)+200<cLine:=hr.un
 have shk:=mo.ok x sh es
 have vb:=VB_le n
 refine ⟨_,rfl,e,_,_,_,rfl,rfl,he,Va,_,rfl,S,_,rfl,(show DGet H S (kV (.inr x)) (some sv) from ev ▸ rd_get hS (.inr x)), ?_⟩
 have isv0:=isv
 have plain:∀ {H1:Hp},Zv H H1->Pln [] sh->(∀ v u H',Zd K H' u v->Pv sh u->Y5 l r H H'->∀ L,H' L=none->Q (.ref L) (Z3 H' L (.lst [v]))):=fun {H1} s1 pl v u H' i pv t L hL=>by
  obtain ⟨w,hw⟩:=pv_wr (own:=true) (n:=n) es pv
  exact q L _ (.inr ⟨v,u,w,Zz,Zd.up (Zv.lay hL).upT _ _ i,hw⟩) (t.free hL) (t.lay hL)
 cases sh with
 | whole lo hi =>
  obtain ⟨a,ws,rfl,ha,at'⟩:=isv
  obtain ⟨w1,w2,w3,rfl,i1,i2,i3⟩:=are3 at'
  cases (show w1=.str "whole" from i1)
  refine ⟨_,rfl,a,_,_,_,rfl,rfl,ha,at0,(sz 3),fun e0 h0=>?_⟩
  have s0:=Zv.lay (o:=.tup [.str "whole",.str "truth",.str "text"]) h0
  refine ⟨e0,_,rfl,.inr (Z6.of Zz),rfl,rfl,_,rfl,Yh (by decide +kernel) ?_⟩
  refine ⟨_,rfl,_,rfl,l,_,.whole lo hi,[],r+VB n - 1,rfl,Zd.up s0.upT _ _ isv0,shk,(fe.same s0).mono (by omega),fun v u H' i pv t=>⟨(sz 1),fun L hL=>?_⟩⟩
  exact plain s0 shk v u H' i pv ((((Y5.refl fe).same s0).trans t).mono (by omega)) L hL
 | truth =>
  obtain ⟨a,ws,rfl,ha,at'⟩:=isv
  obtain ⟨w1,rfl,i1⟩:=are1 at'
  cases (show w1=.str "truth" from i1)
  refine ⟨_,rfl,a,_,_,_,rfl,rfl,ha,at0,(sz 3),fun e0 h0=>?_⟩
  have s0:=Zv.lay (o:=.tup [.str "whole",.str "truth",.str "text"]) h0
  refine ⟨e0,_,rfl,.inr (Z6.of Zz),rfl,rfl,_,rfl,Yh (by decide +kernel) ?_⟩
  refine ⟨_,rfl,_,rfl,l,_,.truth,[],r+VB n - 1,rfl,Zd.up s0.upT _ _ isv0,shk,(fe.same s0).mono (by omega),fun v u H' i pv t=>⟨(sz 1),fun L hL=>?_⟩⟩
  exact plain s0 shk v u H' i pv ((((Y5.refl fe).same s0).trans t).mono (by omega)) L hL
 | text nn =>
  obtain ⟨a,ws,rfl,ha,at'⟩:=isv
  obtain ⟨w1,w2,rfl,i1,i2⟩:=are2 at'
  cases (show w1=.str "text" from i1)
  refine ⟨_,rfl,a,_,_,_,rfl,rfl,ha,at0,(sz 3),fun e0 h0=>?_⟩
  have s0:=Zv.lay (o:=.tup [.str "whole",.str "truth",.str "text"]) h0
  refine ⟨e0,_,rfl,.inr (Z6.of Zz),rfl,rfl,_,rfl,Yh (by decide +kernel) ?_⟩
  refine ⟨_,rfl,_,rfl,l,_,.text nn,[],r+VB n - 1,rfl,Zd.up s0.upT _ _ isv0,shk,(fe.same s0).mono (by omega),fun v u H' i pv t=>⟨(sz 1),fun L hL=>?_⟩⟩
  exact plain s0 shk v u H' i pv ((((Y5.refl fe).same s0).trans t).mono (by omega)) L hL
 | row b y nn =>
  obtain ⟨a,ws,rfl,ha,at'⟩:=isv
  obtain ⟨w1,w2,w3,rfl,i1,i2,i3⟩:=are3 at'
  cases (show w2=.str y from i2)
  cases (show w3=.int nn from i3)
  have hb:∀ b:Bool,inV (.str (if b=true then ("row" : Str) else "map")) [.str "whole",.str "truth",.str "text"]=false/\inV (.str (if b=true then ("row" : Str) else "map")) [.str "row",.str "map"]=true/\decide (V.str (if b=true then ("row" : Str) else "map")=V.str "row")=b:=by decide +kernel
  cases (show w1=.str (if b=true then "row" else "map") from i1)
  refine ⟨_,rfl,a,_,_,_,rfl,rfl,ha,at0,(sz 3),fun e0 h0=>?_⟩
  have s0:=Zv.lay (o:=.tup [.str "whole",.str "truth",.str "text"]) h0
  refine ⟨e0,_,rfl,.inr (Z6.of Zz),rfl,rfl,_,rfl,Z5 (hb b).1 ?_⟩
  refine ⟨_,rfl,a,_,_,_,rfl,rfl,s0.up _ _ ha,at0,(sz 2),fun e1 h1=>?_⟩
  have s1:=s0.trans (Zv.lay (o:=.tup [.str "row",.str "map"]) h1)
  refine ⟨e1,_,rfl,.inr (Z6.of Zz),rfl,rfl,_,rfl,Yh (hb b).2.1 ?_⟩
  have t1:=(Y5.refl fe).same s1
  refine ⟨_,rfl,_,rfl,l,4,r+(VB n - 1),rfl,t1.feed.mono (by omega),by decide,by decide,fun d H2 d0 d1 t2=>?_⟩
  refine ⟨_,rfl,_,_,rfl,rfl,.inr ⟨_,rfl,_,_,rfl,rfl,.inr ⟨by split <;> decide,by split <;> decide⟩, ?_⟩⟩
  obtain ⟨mm,emm,m3,mz⟩:∃ mm:Nat,d * (if decide ((n:Int)>0)=true then (1:Int) else 0)=(mm:Int)/\mm<=3/\(n=0->mm=0):=by
   by_cases z:(n:Int)>0
   ·rw [if_pos (decide_eq_true z)]
    exact ⟨d.toNat,by omega,by omega,fun y=>by omega⟩
   ·rw [if_neg (by simpa using z)]
    exact ⟨0,by omega,by omega,fun _=>rfl⟩
  have t12:=t1.trans t2
  refine ⟨l,mm,r+(VB n - 3),by rw [<-emm]; rfl,t2.feed.mono (by omega),by omega,fun C cs H3 hC nC okC t3=>?_⟩
  have t13:=t12.trans t3
  refine ⟨C,cs.map Sum.inr,rfl,by rw [List.map_map]; exact Z0.of hC, ?_,fun Sx uz hSx ndz mz' lz=>?_⟩
  ·rw [List.length_map,okC.len]
   exact Nat.lt_of_le_of_lt (show mm+1<=9 by omega) (by decide)
  obtain ⟨zs,rfl,hzs⟩:=inr_all (us:=uz) fun z m=>(mz' z).mp m
  rw [List.length_map,List.length_map,okC.len] at lz
  have sS:=Zv.lay (o:=SetHO P w Sx (zs.map Sum.inr)) hSx
  refine ⟨Sx,zs,rfl,Zz,by omega,fun KL ns hKL pz _=>?_⟩
  have sK:=Zv.lay (o:=.lst (ns.map V.str)) hKL
  have t14:=t13.same (sS.trans sK)
  have u14:=t14.upT (K:=K) fe
  have ha4:=u14.tup _ _ ha
  obtain ⟨ks,eks,sks⟩:=cut_map ns none (some nn)
  refine ⟨_,rfl,a,_,_,_,rfl,rfl,ha4,at2,_,rfl,KL,_,rfl,Z0.of Zz, ?_⟩
  rw [eks]
  intro KS hKS
  have sKS:=Zv.lay (o:=.lst (ks.map V.str)) hKS
  have t15:=t14.same sKS
  have hK15:Z3 (Z3 (Z3 H3 Sx (SetHO P w Sx (zs.map Sum.inr))) KL (.lst (ns.map V.str))) KS (.lst (ks.map V.str)) KS=some (.lst (ks.map V.str)):=Zz
  have lks:ks.length<=mm:=Nat.le_trans sks.length_le (by rw [pz.length_eq]; exact lz)
  have mks:∀ k∈ks,k∈V3:=fun k m=>okC.mem k (hzs k (pz.mem_iff.mp (sks.subset m)))
  have nKS0:H KS=none:=t14.free hKS
  have nKSl:KS≠l:=fe.ne nKS0
  have u15:=t15.upT (K:=K) fe
  refine ⟨_,rfl,KS,rfl,⟨_,Z0.of hK15⟩,fun D fp sx hD=>?_⟩
  have nD0:H D=none:=t15.free hD
  have nDl:D≠l:=fe.ne nD0
  have nKD:KS≠D:=Z4 hK15 hD
  refine Vz (K:=K) (xs:=ks.map V.str) (fun i ys σ H5=>(∃ o,σ=[o,some (.ref l),some (.ref e),some (.ref a),some (.int (n:Int))])/\Y5 l (r+(3 - i) * (VB n / 6)) H H5/\H5 KS=some (.lst (ks.map V.str))/\H5 D=some (.lst ys)/\∃ Ls:List Addr,ys=Ls.map V.ref/\Ls.length=i/\∀ L∈Ls,Res K H5 (Wr' true ms n y) L/\L≠D/\L≠KS)
   ⟨⟨_,rfl⟩,(t15.lay hD).mono (by omega),(Zv.lay hD) _ _ hK15,Zz,[],rfl,rfl,fun L m=>absurd m List.not_mem_nil⟩ ?_ ?_ ?_
  ·rintro i ys σ H5 hi ⟨_,_,h5,h5D,_⟩
   exact ⟨Z0.of h5,h5D⟩
  ·rintro i xk ys σ H5 hx ⟨⟨o,rfl⟩,t5,h5,h5D,Ls,rfl,lL,hL⟩
   have hi:i<ks.length:=by rw [<-List.length_map V.str]; exact (List.getElem?_eq_some_iff.mp hx).1
   cases n with
   | zero=>rw [mz rfl] at lks; omega
   | succ n' =>
    have vbe:VB (n'+1)=10+6 * VB n':=rfl
    have vb6:VB n'<=VB (n'+1) / 6:=by omega
    generalize VB (n'+1) / 6=vd at *
    have eb:(3 - i) * vd=(3 - (i+1)) * vd+vd:=by rw [show 3 - i=(3 - (i+1))+1 by omega,Nat.add_mul,Nat.one_mul]
    have u5:=t5.upT (K:=K) fe
    have arg:[V.ref l,V.ref e,V.str y,V.int (((n'+1:Nat):Int) - 1)]=[V.ref l,V.ref e,V.str y,V.int (n':Int)]:=by rw [show ((n'+1:Nat):Int) - 1=(n':Int) by omega]
    refine Vk ?_
    refine ⟨_,rfl,_,rfl,_,rfl,a,_,_,_,rfl,rfl,u5.tup _ _ ha,Va,_,rfl,_,_,rfl,rfl,l,e,S,ms,y,r+(3 - (i+1)) * vd,arg,mk.up u5,mo,shk.1,t5.feed.mono (by omega),fun LX H6 rX nL t6=>?_⟩
    have h6D:=t6.keep _ _ nDl h5D
    have nLD:LX≠D:=fun z=>by rw [z,h5D] at nL; cases nL
    have nLK:LX≠KS:=fun z=>by rw [z,h5] at nL; cases nL
    refine ⟨h6D, ?_,⟨_,rfl⟩,(t5.trans t6).put nD0 (fe.far nD0),by rw [Zk nKD]; exact t6.keep _ _ nKSl h5,Zz,Ls++[LX],by rw [List.map_append]; rfl,by rw [List.length_append,List.length_singleton,lL],fun L m=>?_⟩
    ·rw [List.length_map,lL]; exact Yq (by omega)
    ·rcases List.mem_append.mp m with m | m
     ·obtain ⟨z,n1,n2⟩:=hL L m
      exact ⟨(z.step t5.feed t6).put h6D n1,n1,n2⟩
     ·rw [List.mem_singleton.mp m]
      exact ⟨rX.put h6D nLD,nLD,nLK⟩
  ·rintro ys σ H5 ⟨⟨o,rfl⟩,t5,h5,h5D,Ls,rfl,lL,hL⟩
   have t5:=t5.mono (r':=r) (by omega)
   have u5:=t5.upT (K:=K) fe
   rw [List.length_map] at lL
   refine ⟨(sz 0),fun eA hA=>?_⟩
   have sA:=Zv.lay (o:=.lst []) hA
   obtain ⟨os,aD,dp,alt⟩:=allOr (wr'_dp mo (by omega) (x:=y)) (ks:=ks) lL.symm fun L m=>((hL L m).1).same sA
   refine ⟨_,rfl,D,_,.lst [],os.map rD,rfl,Z0.of (sA _ _ h5D),⟨eA,[],rfl,Z0.of Zz,rfl⟩,aD,fun e' me=>?_,_,rfl, ?_⟩
   ·obtain ⟨o',mo',rfl⟩:=List.mem_map.mp me
    have:=dp o' mo'
    show A.units+3+dpD (rD o')+10<cLine
    omega
   have t6:=t5.same sA
   have ha6:=(t6.upT (K:=K) fe).tup _ _ ha
   rcases alt with c | ⟨c,ents,ek,pd⟩
   ·refine Yh (by rw [any_none]; exact c) ⟨(sz 0),fun p3 hp3=>⟨(sz 1),fun p4 hp4=>?_⟩⟩
    have s3:=Zv.lay (o:=.tup []) hp3
    have s4:=Zv.lay (o:=.lst [.ref p3]) hp4
    obtain ⟨w,hw⟩:=pv_wr (own:=true) (n:=n) (d:=.tup []) es trivial
    exact q p4 _ (.inr ⟨_,.tup [],w,Zz,⟨p3,[],rfl,s4.up _ _ (Z6.of Zz),rfl⟩,hw⟩) (t6.free (s3.free hp4)) (t6.same (s3.trans s4))
   ·refine Z5 (by rw [any_none]; exact c) ?_
    have le:ents.length=Ls.length:=Paired.length pd
    have l3:ents.length<=3:=by omega
    have hal:∀ en∈ents,en.k∈V3/\Wr' true ms n y en.u en.w:=fun en me=>⟨mks _ (by rw [<-ek]; exact List.mem_map_of_mem me),hasE_all pd en me⟩
    refine ⟨_,rfl,a,_,_,_,rfl,rfl,ha6,at0,rfl,_,rfl, ?_⟩
    cases b with
    | true =>
     refine Yh (by decide +kernel) ?_
     refine ⟨_,rfl,D,rfl,⟨_,Z0.of (sA _ _ h5D)⟩,fun D2 fp2 sx2 hD2=>?_⟩
     refine Vz (K:=K) (xs:=Ls.map V.ref) (fun i zs σ H7=>(∃ o,σ=[o])/\Zv _ H7/\H7 D2=some (.lst zs)/\Zw K H7 ((ents.take i).map Kuw.u) zs) ⟨⟨_,rfl⟩,Zv.lay hD2,Zz,rfl⟩ ?_ ?_ ?_
     ·rintro i zs σ H7 hi ⟨_,s7,h7,_⟩
      exact ⟨Z0.of (s7 _ _ (sA _ _ h5D)),h7⟩
     ·rintro i xv zs σ H7 hx ⟨⟨o,rfl⟩,s7,h7,az⟩
      rw [List.getElem?_map] at hx
      obtain ⟨L,eL,rfl⟩:=Option.map_eq_some_iff.mp hx
      obtain ⟨en,ee,v,hv,iv,_⟩:=hasE_at pd eL
      refine Vk ?_
      have uS:Vc K H7 (Z3 H7 D2 (.lst (zs++[v]))):=Yv h7
      refine ⟨_,rfl,L,_,_,_,rfl,rfl,Z0.of (s7 _ _ hv),at0,h7, ?_,⟨_,rfl⟩,s7.put hD2,Zz, ?_⟩
      ·rw [<-az.length,List.length_map,List.length_take]; exact Yq (by omega)
      ·rw [Zr ee,List.map_append]
       exact Zw.append (Zw.up uS _ _ az) (Zw.one (Zd.up (s7.upT.trans uS) _ _ iv))
     ·rintro zs σ H7 ⟨_,s7,h7,az⟩
      rw [List.length_map, <-le,List.take_length] at az
      refine ⟨D2,zs,rfl,.inl ⟨Z0.of h7,fun p3 hp3=>⟨(sz 1),fun p4 hp4=>?_⟩⟩⟩
      have s3:=Zv.lay (o:=.tup zs) hp3
      have s4:=Zv.lay (o:=.lst [.ref p3]) hp4
      exact q p4 _ (.inr ⟨_,.tup (ents.map Kuw.u),_,Zz,⟨p3,zs,rfl,s4.up _ _ (Z6.of Zz),Zw.up (s3.trans s4).upT _ _ az⟩,Wr.of es ⟨ents,l3,hal,rfl,rfl⟩⟩) (t6.free (s7.free (s3.free hp4))) (t6.same (s7.trans (s3.trans s4)))
    | false =>
     refine Z5 (by decide +kernel) ?_
     have lkm:(ks.map V.str).length=ks.length:=List.length_map _
     refine ⟨_,rfl,KS,_,rfl,.inl (Z0.of (sA _ _ h5)),((ks.map V.str).length:Int),rfl,by omega,by omega,fun D2 fp2 sx2 hD2=>?_⟩
     refine comp_range (n:=(((ks.map V.str).length:Nat):Int).toNat) (fun i zs σ H7=>(∃ o,σ=[o,some (.ref KS),some (.ref D)])/\Zv _ H7/\H7 D2=some (.lst zs)/\Zw K H7 ((ents.take i).map fun e=>.tup [.str e.k,e.u]) zs) ⟨⟨_,rfl⟩,Zv.lay hD2,Zz,rfl⟩ ?_ ?_ ?_
     ·rintro i zs σ H7 hi ⟨_,s7,h7,_⟩
      exact h7
     ·rintro i zs σ H7 hi ⟨⟨o,rfl⟩,s7,h7,az⟩
      have hi:i<Ls.length:=by
       have:(ks.map V.str).length=ks.length:=List.length_map _
       omega
      have eL:Ls[i]?=some Ls[i]:=List.getElem?_eq_getElem hi
      obtain ⟨en,ee,v,hv,iv,_⟩:=hasE_at pd eL
      have ekk:ks[i]?=some en.k:=by rw [<-ek,List.getElem?_map,ee]; rfl
      have aK:atI (ks.map V.str) (0+(i:Int))=some (.str en.k):=by rw [Int.zero_add]; exact Y8 (by rw [List.getElem?_map,ekk]; rfl)
      have aL:atI (Ls.map V.ref) (0+(i:Int))=some (.ref Ls[i]):=by rw [Int.zero_add]; exact Y8 (by rw [List.getElem?_map,eL]; rfl)
      refine Vk ?_
      refine ⟨_,rfl,_,rfl,KS,_,_,_,rfl,rfl,Z0.of (s7 _ _ (sA _ _ h5)),aK,_,rfl,_,rfl,D,_,_,_,rfl,rfl,Z0.of (s7 _ _ (sA _ _ h5D)),aL,_,_,_,_,rfl,rfl,Z0.of (s7 _ _ hv),at0,(sz 2),fun e2 h2=>?_⟩
      have s2:=Zv.lay (o:=.tup [.str en.k,v]) h2
      have h8:=s2 _ _ h7
      have uS:Vc K _ (Z3 _ D2 (.lst (zs++[.ref e2]))):=Yv h8
      refine ⟨h8, ?_,⟨_,rfl⟩,(s7.trans s2).put hD2,Zz, ?_⟩
      ·rw [<-az.length,List.length_map,List.length_take]; exact Yq (by omega)
      ·rw [Zr ee,List.map_append]
       exact Zw.append (Zw.up (s2.upT.trans uS) _ _ az) (Zw.one (Zd.up uS _ _ ⟨e2,_,rfl,Z6.of Zz,_,_,rfl,rfl,_,_,rfl,Zd.up (s7.trans s2).upT _ _ iv,rfl⟩))
     ·rintro zs σ H7 ⟨_,s7,h7,az⟩
      have lz:ents.length<=(((ks.map V.str).length:Nat):Int).toNat:=by
       have:(ks.map V.str).length=ks.length:=List.length_map _
       omega
      rw [List.take_of_length_le lz] at az
      refine ⟨D2,zs,rfl,.inl ⟨Z0.of h7,fun p3 hp3=>⟨(sz 1),fun p4 hp4=>?_⟩⟩⟩
      have s3:=Zv.lay (o:=.tup zs) hp3
      have s4:=Zv.lay (o:=.lst [.ref p3]) hp4
      exact q p4 _ (.inr ⟨_,.tup (ents.map fun e=>.tup [.str e.k,e.u]),_,Zz,⟨p3,zs,rfl,s4.up _ _ (Z6.of Zz),Zw.up (s3.trans s4).upT _ _ az⟩,Wr.of es ⟨ents,l3,hal,rfl,rfl⟩⟩) (t6.free (s7.free (s3.free hp4))) (t6.same (s7.trans (s3.trans s4)))
 | rcd fs us =>
  obtain ⟨a,ws,rfl,ha,at'⟩:=isv
  obtain ⟨w1,w2,w3,rfl,i1,i2,i3⟩:=are3 at'
  cases (show w1=.str "record" from i1)
  have ha00:=ha
  refine ⟨_,rfl,a,_,_,_,rfl,rfl,ha,at0,(sz 3),fun e0 h0=>?_⟩
  have s0:=Zv.lay (o:=.tup [.str "whole",.str "truth",.str "text"]) h0
  refine ⟨e0,_,rfl,.inr (Z6.of Zz),rfl,rfl,_,rfl,Z5 (by decide +kernel) ?_⟩
  refine ⟨_,rfl,a,_,_,_,rfl,rfl,s0.up _ _ ha,at0,(sz 2),fun e1 h1=>?_⟩
  have s1:=s0.trans (Zv.lay (o:=.tup [.str "row",.str "map"]) h1)
  refine ⟨e1,_,rfl,.inr (Z6.of Zz),rfl,rfl,_,rfl,Z5 (by decide +kernel) ?_⟩
  have t1:=(Y5.refl fe).same s1
  have ha:=s1.up _ _ ha
  refine ⟨_,rfl,_,_,rfl,rfl,_,rfl, ?_⟩
  cases n with
  | zero =>
   refine Yh rfl ⟨(sz 0),fun L hL=>?_⟩
   exact q L _ (.inl Zz) (t1.free hL) ((t1.lay hL).mono (by omega))
  | succ n' =>
   refine Z5 (decide_eq_false (by omega)) ?_
   refine ⟨_,rfl,a,_,_,_,rfl,rfl,ha,at0,rfl,_,rfl,Yh (by decide +kernel) ?_⟩
   have vbe:VB (n'+1)=10+6 * VB n':=rfl
   refine ⟨_,rfl,_,rfl,_,rfl,_,rfl,l,e,S,ms,_,fs,us,r,rfl,mk.up s1.upT,mo,Zd.up s1.upT _ _ isv0,shk,t1.feed.mono (by omega),fun L H' rs nL t=>?_⟩
   refine q L H' ?_ (t1.free nL) (t1.trans t)
   exact rs.imp id fun ⟨v,u,w,e',i,z⟩=>⟨v,u,w,e',i,_,es,z⟩
 | cho fs us o =>
  obtain ⟨a,ws,rfl,ha,at'⟩:=isv
  obtain ⟨w1,w2,w3,w4,rfl,i1,i2,i3,i4⟩:=are4 at'
  cases (show w1=.str "choice" from i1)
  obtain ⟨fa,fws,rfl,hfa,afs⟩:=i2
  have pr:Vg ms fs:=shk.1
  have ha00:=ha
  refine ⟨_,rfl,a,_,_,_,rfl,rfl,ha,at0,(sz 3),fun e0 h0=>?_⟩
  have s0:=Zv.lay (o:=.tup [.str "whole",.str "truth",.str "text"]) h0
  refine ⟨e0,_,rfl,.inr (Z6.of Zz),rfl,rfl,_,rfl,Z5 (by decide +kernel) ?_⟩
  refine ⟨_,rfl,a,_,_,_,rfl,rfl,s0.up _ _ ha,at0,(sz 2),fun e1 h1=>?_⟩
  have s1:=s0.trans (Zv.lay (o:=.tup [.str "row",.str "map"]) h1)
  refine ⟨e1,_,rfl,.inr (Z6.of Zz),rfl,rfl,_,rfl,Z5 (by decide +kernel) ?_⟩
  have t1:=(Y5.refl fe).same s1
  have ha:=s1.up _ _ ha
  refine ⟨_,rfl,_,_,rfl,rfl,_,rfl, ?_⟩
  cases n with
  | zero =>
   refine Yh rfl ⟨(sz 0),fun L hL=>?_⟩
   exact q L _ (.inl Zz) (t1.free hL) ((t1.lay hL).mono (by omega))
  | succ n' =>
   refine Z5 (decide_eq_false (by omega)) ?_
   refine ⟨_,rfl,a,_,_,_,rfl,rfl,ha,at0,rfl,_,rfl,Z5 (by decide +kernel) ?_⟩
   have vbe:VB (n'+1)=10+6 * VB n':=rfl
   refine ⟨_,rfl,l,8,r+5 * VB n',rfl,t1.feed.mono (by omega),by decide,by decide,fun fst H2 f0 f1 t2=>?_⟩
   have t12:=t1.trans t2
   have u12:=t12.upT (K:=K) fe
   have lfw:fws.length=fs.length:=by rw [<-afs.length,List.length_map]
   have l5:=pr.len
   have ha2:=(t2.upT (K:=K) t1.feed).tup _ _ ha
   refine ⟨_,rfl,a,_,_,_,rfl,rfl,ha2,Va,fa,_,rfl,.inr (u12.tup _ _ hfa),(fws.length:Int),rfl,by omega,by omega, ?_⟩
   refine for_range (n:=((fws.length:Nat):Int).toNat) (fun i σ H5=>(∃ o2 o5 o6 o8 o9 o10,σ=[some (.ref l),some (.ref e),o2,some (.int ((n'+1:Nat):Int)),some (.ref a),o5,o6,some (.int fst),o8,o9,o10])/\Y5 l (r+(5 - i) * VB n') H H5) ⟨⟨_,_,_,_,_,_,rfl⟩,t12.mono (by omega)⟩ ?_ ?_
   ·rintro i σ H5 hi ⟨⟨o2,o5,o6,o8,o9,o10,rfl⟩,t5⟩
    have hi':i<fs.length:=by omega
    have eb:(5 - i) * VB n'=(5 - (i+1)) * VB n'+VB n':=by rw [show 5 - i=(5 - (i+1))+1 by omega,Nat.add_mul,Nat.one_mul]
    have u5:=t5.upT (K:=K) fe
    have hj0:0<=(fst+(0+(i:Int))) % (fws.length:Int):=Int.emod_nonneg _ (by omega)
    have hj1:(fst+(0+(i:Int))) % (fws.length:Int)<(fws.length:Int):=Int.emod_lt_of_pos _ (by omega)
    generalize hj:(fst+(0+(i:Int))) % (fws.length:Int)=j at hj0 hj1
    obtain ⟨jn,rfl⟩:∃ jn:Nat,j=jn:=⟨j.toNat,by omega⟩
    have ej:fws[jn]?=some fws[jn]:=List.getElem?_eq_getElem (by omega)
    obtain ⟨t,et,it⟩:=afs.got ej
    rw [List.getElem?_map] at et
    obtain ⟨fl,ee,rfl⟩:=Option.map_eq_some_iff.mp et
    have mf:=List.mem_of_getElem? ee
    have eI:atI fws ((fst+(0+(i:Int))) % (fws.length:Int))=some fws[jn]:=by rw [hj]; exact Y8 ej
    obtain ⟨b,bs,eb',hb,ab⟩:=Zd.up u5 _ _ it
    rw [eb'] at eI
    obtain ⟨b1,b2,b3,rfl,j1,j2,j3⟩:=are3 ab
    cases (show b1=.int fl.n from j1)
    cases (show b2=.str fl.x from j2)
    cases (show b3=.str fl.y from j3)
    have ha5:=(t5.upT (K:=K) fe).tup _ _ ha00
    have hfa5:=u5.tup _ _ hfa
    have arg:[V.ref l,V.ref e,V.str fl.y,V.int (((n'+1:Nat):Int) - 1)]=[V.ref l,V.ref e,V.str fl.y,V.int (n':Int)]:=by rw [show ((n'+1:Nat):Int) - 1=(n':Int) by omega]
    refine ⟨_,rfl,a,_,_,_,rfl,rfl,ha5,Va,_,rfl,_,rfl,_,_,rfl,rfl,_,rfl,a,_,_,_,rfl,rfl,ha5,Va,fa,_,rfl,.inr hfa5,_,_,rfl,rfl,(by show (0:Int)<_; omega),fa,_,_,_,rfl,rfl,hfa5,eI,b,_,rfl,hb,rfl,_,_,rfl,_,_,rfl,_,_,rfl,rfl, ?_⟩
    refine ⟨_,rfl,_,rfl,_,rfl,_,rfl,_,_,rfl,rfl,l,e,S,ms,fl.y,r+(5 - (i+1)) * VB n',arg,mk.up u5,mo,pr.y fl mf,t5.feed.mono (by omega),fun LX H6 rX nL t6=>?_⟩
    refine ⟨_,rfl,(sz 0),fun eA hA=>?_⟩
    have sA:=Zv.lay (o:=.lst []) hA
    obtain ⟨o',dO,dpO,hO⟩:=resD mo (by omega) (rX.same sA)
    have un1:A.units+3+dpD (rD o')<cLine:=Nat.lt_of_le_of_lt (Nat.add_le_add_left dpO _) (by omega)
    have t7:=(t5.trans t6).same sA
    rcases hO with ⟨rfl,hO⟩ | ⟨v,u,w,rfl,hO,iO,qO⟩
    ·exact ⟨rD none,.lst [],dO,⟨eA,[],rfl,Z0.of Zz,rfl⟩,un1,_,rfl,Z5 rfl ⟨⟨_,_,_,_,_,_,rfl⟩,t7⟩⟩
    ·refine ⟨rD (some u),.lst [],dO,⟨eA,[],rfl,Z0.of Zz,rfl⟩,un1,_,rfl,Yh rfl ?_⟩
     refine ⟨_,rfl,_,rfl,_,_,_,_,rfl,rfl,Z0.of hO,at0,(sz 3),fun p3 hp3=>⟨(sz 1),fun p4 hp4=>?_⟩⟩
     have s3:=Zv.lay (o:=.tup [.str "arm",.int fl.n,v]) hp3
     have s4:=Zv.lay (o:=.lst [.ref p3]) hp4
     refine q p4 _ (.inr ⟨_,.tup [.str "arm",.int fl.n,u],.tup [.str "arm",.int fl.n,w],Zz,⟨p3,_,rfl,s4.up _ _ (Z6.of Zz),_,_,rfl,rfl,_,_,rfl,rfl,_,_,rfl,Zd.up (s3.trans s4).upT _ _ iO,rfl⟩,_,es,.inl ⟨fl,mf,u,w,qO,rfl,rfl⟩⟩) (t7.free (s3.free hp4)) ((t7.same (s3.trans s4)).mono (by omega))
   ·rintro σ H5 ⟨⟨o2,o5,o6,o8,o9,o10,rfl⟩,t5⟩
    refine ⟨(sz 0),fun L hL=>?_⟩
    exact q L _ (.inl Zz) (t5.free hL) ((t5.lay hL).mono (by omega))
end
abbrev Ys:Stmt:=top 20
abbrev Y3:List Str:=["_law_feed_here","_law_make_here","_law_name","_law_value_here","_law_shape","_law_known","_law_numbers_here","_law_some","_law_inner"]
theorem Y0:Yk Y3 ["_law_feed_here","_law_make_here","_law_name","_law_value_here"] (Zf Ys):=by trivial
def WB:Nat->Nat
 | 0=>300
 | n+1=>5 * WB n+300
theorem WB_le:∀ n,300<=WB n
 | 0=>Nat.le_refl _
 | n+1=>by show 300<=5 * WB n+300; omega
def spWild (K:W.Frag) (n:Nat):Sp:=fun vs H Q _=>∃ (l e S:Addr) (ms:List (Str × Yr)) (x:Str) (u w:Th) (v:V) (r:Nat),vs=[.ref l,.ref e,.str x,v]/\MkAt K H e S ms/\MkOk ms/\Wr true ms n x u w/\Zd K H u v/\Fd (r+WB n) H l/\∀ v' u' w' H',Zd K H' u' v'->Wr false ms n x u' w'->Y5 l r H H'->Q v' H'
def spWild' (K:W.Frag):Nat->Sp
 | 0=>fun _ _ _ _=>False
 | n+1=>spWild K n
theorem wild_lt {n:Nat} {ms:List (Str × Yr)} {y:Str} {u w:Th} (h:Wr' true ms n y u w):∃ n',n=n'+1:=by
 cases n with
 | zero=>exact False.elim h
 | succ n'=>exact ⟨n',rfl⟩
def OTH:List Int:=[1,4,7,50,100,998]
theorem oth_in:∀ n∈OTH,0<=n/\n<=1000:=by decide
theorem alw {σ:L2.St} {H:Hp} {A B:Hp->Prop} (h:A H):tAlways σ H fun ok H3=>if ok=true then A H3 else B H3:=by
 show if true=true then A H else B H
 exact Yh rfl h
section
variable {P:Program} {w:World} {K:W.Frag} {mg:Str->Option Value} {base:Heap} {f:Addr} {fd:FuncData}
theorem ok_wild {k n:Nat} (k4:4<=k) (F:Fun K "_law_wild" "_law_wild" Ys f fd) (m:Bn mg) (g_law_draw:Fn P w K mg base 1 "_law_draw" ["_law_feed_here","_law_many"] spDraw) (g_law_item:Fn P w K mg base 4 "_law_item" ["_law_feed_here","_law_deep"] (spIt K 2)) (g_law_wild:Fn P w K mg base k "_law_wild" ["_law_feed_here","_law_make_here","_law_name","_law_value_here"] (spWild' K n)):Y4 P w K mg base CX0 (k+1) f fd ["_law_feed_here","_law_make_here","_law_name","_law_value_here"] (spWild K n):=by
 refine F.ok Y0 (fun vs H Q E h=>?_) (fun cdv A outer s H vs Q E hr h=>?_)
 ·obtain ⟨l,e,S,ms,x,u,w,v,r,rfl,_⟩:=h
  rfl
 obtain ⟨l,e,S,ms,x,u,wt,v,r,rfl,mk,mo,hw,iu,fe,q⟩:=h
 refine ⟨_,(@Zj _ _ _ _ _ (@Zo _ 4 _ _ _ _ _ Y0.nd rfl (by trivial) (@pe_dget _ _ _ _ _ _ (hu_of hr) (@Zm _ _ _ _ _ _ _ Zt (pv 1) Zq (fun _ _=>rfl)) (pv 2) (fun _ _=>rfl)) rfl (by trivial)) (@Zj _ _ _ _ _ (@Yz _ _ _ _ _ _ _ _ (@Zl _ _ _ _ _ _ _ _ Yf (@Zm _ _ _ _ _ _ _ Zt (pv 4) Zq (fun _ _=>rfl)) Zc (Zh _)) (@Zb _ _ _ (@Zp _ _ _ _ (@Ze _ _ _ _ _ _ _ _ _ Zi rfl m.tuple Ya (Zg (@Yw _ Y3 (Zf Ys) ["_law_one","_law_feed_here","_law_make_here","_law_shape"] [none,some 0,some 1,some 4] _ _ _ _ _ _ _ _ _ _ rfl (@V0 _ _ _ _ (pv 3)) ⟨rfl,rfl,by decide +kernel,by decide +kernel⟩ (fun _ _ _=>(@Zn _ 0 _ _ (show List.Nodup (["_law_one","_law_feed_here","_law_make_here","_law_shape"]:List Str) from by decide +kernel) rfl (Or.inl rfl) (by trivial))) (fun _ _ _=>Yn) (fun _ _ _=>(@Zy _ _ _ _ _ _ _ _ _ _ g_law_wild hr.m rfl (Zg (pv 1) (Zg (pv 2) (Zg (@Zm _ _ _ _ _ _ _ Zt (pv 3) Zq (fun _ _=>rfl)) (Zg (pv 0) Zx rfl) rfl) rfl) rfl) (by decide) rfl rfl)) (by trivial)) Zx rfl) (by trivial) (by trivial) (by trivial) (by trivial)))) Za) (@Zj _ _ _ _ _ (@Yz _ _ _ _ _ _ _ _ (@Zl _ _ _ _ _ _ _ _ Yf (@Zm _ _ _ _ _ _ _ Zt (pv 4) Zq (fun _ _=>rfl)) Zc (Zh _)) (@Zb _ _ _ (@Zp _ _ _ _ (@Ze _ _ _ _ _ _ _ _ _ Zi rfl m.tuple Ya (Zg (@Yw _ Y3 (Zf Ys) ["_law_key","_law_one","_law_feed_here","_law_make_here","_law_shape"] [none,none,some 0,some 1,some 4] _ _ _ _ _ _ _ _ _ _ rfl (@V0 _ _ _ _ (pv 3)) ⟨rfl,rfl,by decide +kernel,by decide +kernel⟩ (fun _ _ _=>(@pg_tup _ _ _ _ _ _ rfl (@Yj _ _ _ _ _ (@Zn _ 0 _ _ (show List.Nodup (["_law_key","_law_one","_law_feed_here","_law_make_here","_law_shape"]:List Str) from by decide +kernel) rfl (Or.inl rfl) (by trivial)) (@Yj _ _ _ _ _ (@Zn _ 1 _ _ (show List.Nodup (["_law_key","_law_one","_law_feed_here","_law_make_here","_law_shape"]:List Str) from by decide +kernel) rfl (Or.inl rfl) (by trivial)) pgs_nil (by trivial)) (by trivial)) (by trivial) (by trivial))) (fun _ _ _=>Yn) (fun _ _ _=>(@Zu _ _ _ _ _ (Zg (pv 0) (Zg (@Zy _ _ _ _ _ _ _ _ _ _ g_law_wild hr.m rfl (Zg (pv 2) (Zg (pv 3) (Zg (@Zm _ _ _ _ _ _ _ Zt (pv 4) Zq (fun _ _=>rfl)) (Zg (pv 1) Zx rfl) rfl) rfl) rfl) (by decide) rfl rfl) Zx rfl) rfl))) (by trivial)) Zx rfl) (by trivial) (by trivial) (by trivial) (by trivial)))) Za) (@Zj _ _ _ _ _ (@Yz _ _ _ _ _ _ _ _ (@Zl _ _ _ _ _ _ _ _ Yf (@Zm _ _ _ _ _ _ _ Zt (pv 4) Zq (fun _ _=>rfl)) Zc (Zh _)) (@Zj _ _ _ _ _ (@Vy _ 5 Y3 (Zf Ys) ["_law_field","_law_one","_law_feed_here","_law_make_here"] [none,none,some 0,some 1] _ _ _ _ _ _ _ _ _ _ _ _ _ Y0.nd rfl (by trivial) rfl (@pi_zipT _ _ _ _ _ _ _ _ _ rfl m.zip (Zg (@Zm _ _ _ _ _ _ _ Zt (pv 4) Zq (fun _ _=>rfl)) (Zg (@Zm _ _ _ _ _ _ _ Zt (pv 3) Zq (fun _ _=>rfl)) Zx rfl) rfl) (by trivial) (by trivial)) ⟨rfl,rfl,by decide +kernel,by decide +kernel⟩ (fun _ _ _=>(@pg_tup _ _ _ _ _ _ rfl (@Yj _ _ _ _ _ (@Zn _ 0 _ _ (show List.Nodup (["_law_field","_law_one","_law_feed_here","_law_make_here"]:List Str) from by decide +kernel) rfl (Or.inl rfl) (by trivial)) (@Yj _ _ _ _ _ (@Zn _ 1 _ _ (show List.Nodup (["_law_field","_law_one","_law_feed_here","_law_make_here"]:List Str) from by decide +kernel) rfl (Or.inl rfl) (by trivial)) pgs_nil (by trivial)) (by trivial)) (by trivial) (by trivial))) (fun _ _ _=>Yn) (fun _ _ _=>(@Zy _ _ _ _ _ _ _ _ _ _ g_law_wild hr.m rfl (Zg (pv 2) (Zg (pv 3) (Zg (@Zm _ _ _ _ _ _ _ Zt (pv 0) Zq (fun _ _=>rfl)) (Zg (pv 1) Zx rfl) rfl) rfl) rfl) (by decide) rfl rfl)) (by trivial) (by trivial) (by trivial)) (@Zj _ _ _ _ _ (@Zo _ 6 _ _ _ _ _ Y0.nd rfl (by trivial) (@Yw _ Y3 (Zf Ys) ["_law_field"] [none] _ _ _ _ _ _ _ _ _ _ rfl (@V0 _ _ _ _ (@Zm _ _ _ _ _ _ _ Zt (pv 4) Zq (fun _ _=>rfl))) ⟨rfl,rfl,by decide +kernel,by decide +kernel⟩ (fun _ _ _=>(@Zn _ 0 _ _ (show List.Nodup (["_law_field"]:List Str) from by decide +kernel) rfl (Or.inl rfl) (by trivial))) (fun _ _ _=>Yn) (fun _ _ _=>(@Zm _ _ _ _ _ _ _ Zt (pv 0) Zq (fun _ _=>rfl))) (by trivial)) rfl (by trivial)) (@Zj _ _ _ _ _ (@Vy _ 7 Y3 (Zf Ys) ["_law_number","_law_numbers_here","_law_feed_here"] [none,some 6,some 0] _ _ _ _ _ _ _ _ _ _ _ _ _ Y0.nd rfl (by trivial) rfl (@Vj _ _ _ _ (@Z7 _ _ _ _ (@pa_ints _ _ [1,4,7,50,100,998] rfl))) ⟨rfl,rfl,by decide +kernel,by decide +kernel⟩ (fun _ _ _=>(@Zn _ 0 _ _ (show List.Nodup (["_law_number","_law_numbers_here","_law_feed_here"]:List Str) from by decide +kernel) rfl (Or.inl rfl) (by trivial))) (fun _ _ _=>(@pts_one _ _ _ (@PW.pt _ _ _ (@pw_and _ _ _ _ _ _ _ (@Zl _ _ _ _ _ _ _ _ op_notIn_seq (pv 0) (pv 1) rfl) (@pw_and1 _ _ _ _ (@Zl _ _ _ _ _ _ _ _ Yf (@Zy _ _ _ _ _ _ _ _ _ _ g_law_draw hr.m rfl (Zg (pv 2) (Zg Zq Zx rfl) rfl) (by decide) rfl rfl) Zq (Zh _))))))) (fun _ _ _=>(pv 0)) (by trivial) (by trivial) (by trivial)) (@Zb _ _ _ (@Zp _ _ _ _ (@Zu _ _ _ _ _ (Zg (@Ze _ _ _ _ _ _ _ _ _ Zi rfl m.tuple Ya (Zg (pv 5) Zx rfl) (by trivial) (by trivial) (by trivial) (by trivial)) (Zg (@Ze _ _ _ _ _ _ _ _ _ Zi rfl m.tuple Ya (Zg (@Yw _ Y3 (Zf Ys) ["_law_number","_law_feed_here"] [none,some 0] _ _ _ _ _ _ _ _ _ _ rfl (@Vj _ _ _ _ (pv 7)) ⟨rfl,rfl,by decide +kernel,by decide +kernel⟩ (fun _ _ _=>(@Zn _ 0 _ _ (show List.Nodup (["_law_number","_law_feed_here"]:List Str) from by decide +kernel) rfl (Or.inl rfl) (by trivial))) (fun _ _ _=>Yn) (fun _ _ _=>(@Zu _ _ _ _ _ (Zg (pv 0) (Zg (@Zy _ _ _ _ _ _ _ _ _ _ g_law_item hr.m rfl (Zg (pv 1) (Zg Zq Zx rfl) rfl) (by decide) rfl rfl) Zx rfl) rfl))) (by trivial)) Zx rfl) (by trivial) (by trivial) (by trivial) (by trivial)) Zx rfl) rfl))))))) Za) (@Zj _ _ _ _ _ (@Yz _ _ _ _ _ _ _ _ (@Zl _ _ _ _ _ _ _ _ Yf (@Zm _ _ _ _ _ _ _ Zt (pv 4) Zq (fun _ _=>rfl)) Zc (Zh _)) (@Zj _ _ _ _ _ (@Zo _ 6 _ _ _ _ _ Y0.nd rfl (by trivial) (@Yw _ Y3 (Zf Ys) ["_law_arm"] [none] _ _ _ _ _ _ _ _ _ _ rfl (@V0 _ _ _ _ (@Zm _ _ _ _ _ _ _ Zt (pv 4) Zq (fun _ _=>rfl))) ⟨rfl,rfl,by decide +kernel,by decide +kernel⟩ (fun _ _ _=>(@Zn _ 0 _ _ (show List.Nodup (["_law_arm"]:List Str) from by decide +kernel) rfl (Or.inl rfl) (by trivial))) (fun _ _ _=>Yn) (fun _ _ _=>(@Zm _ _ _ _ _ _ _ Zt (pv 0) Zq (fun _ _=>rfl))) (by trivial)) rfl (by trivial)) (@Zj _ _ _ _ _ (@Vy _ 7 Y3 (Zf Ys) ["_law_number","_law_numbers_here"] [none,some 6] _ _ _ _ _ _ _ _ _ _ _ _ _ Y0.nd rfl (by trivial) rfl (@Vj _ _ _ _ (@Z7 _ _ _ _ (@pa_ints _ _ [1,4,7,50,100,998] rfl))) ⟨rfl,rfl,by decide +kernel,by decide +kernel⟩ (fun _ _ _=>(@Zn _ 0 _ _ (show List.Nodup (["_law_number","_law_numbers_here"]:List Str) from by decide +kernel) rfl (Or.inl rfl) (by trivial))) (fun _ _ _=>(@pts_one _ _ _ (@Zl _ _ _ _ _ _ _ _ op_notIn_seq (pv 0) (pv 1) rfl))) (fun _ _ _=>(pv 0)) (by trivial) (by trivial) (by trivial)) (@Zj _ _ _ _ _ (@Yz _ _ _ _ _ _ _ _ (@PW.pt _ _ _ (@pw_and _ _ _ _ _ _ _ (@pt_truth _ _ _ (@Zm _ _ _ _ _ _ _ Zt (pv 4) Zq (fun _ _=>rfl)) (fun _ =>  rfl)) (@pw_and1 _ _ _ _ (@Zl _ _ _ _ _ _ _ _ Yf (@Zy _ _ _ _ _ _ _ _ _ _ g_law_draw hr.m rfl (Zg (pv 0) (Zg Zq Zx rfl) rfl) (by decide) rfl rfl) Zq (Zh _))))) (@Zb _ _ _ (@Zp _ _ _ _ (@Zu _ _ _ _ _ (Zg Zc (Zg (@Zm _ _ _ _ _ _ _ Z1 (pv 7) (@Zy _ _ _ _ _ _ _ _ _ _ g_law_draw hr.m rfl (Zg (pv 0) (Zg (@Yy _ _ _ _ _ _ _ _ _ Yl rfl m.len b_len (Zg (pv 7) Zx rfl) (by decide) (by decide) rfl rfl) Zx rfl) rfl) (by decide) rfl rfl) (fun _ _=>rfl)) (Zg (@Zy _ _ _ _ _ _ _ _ _ _ g_law_item hr.m rfl (Zg (pv 0) (Zg Zq Zx rfl) rfl) (by decide) rfl rfl) Zx rfl) rfl) rfl)))) Za) (@Zj _ _ _ _ _ (@Vy _ 8 Y3 (Zf Ys) ["_law_arm","_law_value_here"] [none,some 3] _ _ _ _ _ _ _ _ _ _ _ _ _ Y0.nd rfl (by trivial) rfl (@V0 _ _ _ _ (@Zm _ _ _ _ _ _ _ Zt (pv 4) Zq (fun _ _=>rfl))) ⟨rfl,rfl,by decide +kernel,by decide +kernel⟩ (fun _ _ _=>(@Zn _ 0 _ _ (show List.Nodup (["_law_arm","_law_value_here"]:List Str) from by decide +kernel) rfl (Or.inl rfl) (by trivial))) (fun _ _ _=>(@pts_one _ _ _ (@Zl _ _ _ _ _ _ _ _ Yf (@Zm _ _ _ _ _ _ _ Zt (pv 0) Zq (fun _ _=>rfl)) (@Zm _ _ _ _ _ _ _ Zt (pv 1) Zq (fun _ _=>rfl)) (Zh _)))) (fun _ _ _=>(@Zm _ _ _ _ _ _ _ Zt (pv 0) Zq (fun _ _=>rfl))) (by trivial) (by trivial) (by trivial)) (@Zb _ _ _ (@Zp _ _ _ _ (@Yx _ _ _ _ _ _ _ _ op_catG (@pe_slice _ _ _ _ _ _ _ _ _ _ sl_tupG (pv 3) (@po_none _) (@po_some _ _ _ Zq)) (@Zu _ _ _ _ _ (Zg (@Zy _ _ _ _ _ _ _ _ _ _ g_law_wild hr.m rfl (Zg (pv 0) (Zg (pv 1) (Zg (@Zm _ _ _ _ _ _ _ Z1 (pv 8) Zq (fun _ _=>rfl)) (Zg (@Zm _ _ _ _ _ _ _ Zt (pv 3) Zq (fun _ _=>rfl)) Zx rfl) rfl) rfl) rfl) (by decide) rfl rfl) Zx rfl))))))))) Za) (@Zb _ _ _ (@Zp _ _ _ _ (pv 3)))))))), ?_⟩
 obtain ⟨sh,es,hw⟩:=hw.out
 obtain ⟨v0,he⟩:=mk.e
 obtain ⟨kvs,sv,hS,ev,isv⟩:=mk.get es
 have uN:A.units+3+16 * k+200<cLine:=hr.un
 have shk:=mo.ok x sh es
 have wb:=WB_le n
 refine ⟨_,rfl,e,_,_,_,rfl,rfl,he,Va,_,rfl,S,_,rfl,(show DGet H S (kV (.inr x)) (some sv) from ev ▸ rd_get hS (.inr x)), ?_⟩
 have isv0:=isv
 cases sh with
 | whole lo hi =>
  obtain ⟨a,ws,rfl,ha,at'⟩:=isv
  obtain ⟨w1,w2,w3,rfl,i1,i2,i3⟩:=are3 at'
  cases (show w1=.str "whole" from i1)
  refine ⟨_,rfl,a,_,_,_,rfl,rfl,ha,at0,rfl,_,rfl,Z5 (by decide +kernel) ?_⟩
  refine ⟨_,rfl,a,_,_,_,rfl,rfl,ha,at0,rfl,_,rfl,Z5 (by decide +kernel) ?_⟩
  refine ⟨_,rfl,a,_,_,_,rfl,rfl,ha,at0,rfl,_,rfl,Z5 (by decide +kernel) ?_⟩
  refine ⟨_,rfl,a,_,_,_,rfl,rfl,ha,at0,rfl,_,rfl,Z5 (by decide +kernel) ?_⟩
  exact ⟨_,rfl,q v u wt H iu (Wr.of es hw) ((Y5.refl fe).mono (by omega))⟩
 | truth =>
  obtain ⟨a,ws,rfl,ha,at'⟩:=isv
  obtain ⟨w1,rfl,i1⟩:=are1 at'
  cases (show w1=.str "truth" from i1)
  refine ⟨_,rfl,a,_,_,_,rfl,rfl,ha,at0,rfl,_,rfl,Z5 (by decide +kernel) ?_⟩
  refine ⟨_,rfl,a,_,_,_,rfl,rfl,ha,at0,rfl,_,rfl,Z5 (by decide +kernel) ?_⟩
  refine ⟨_,rfl,a,_,_,_,rfl,rfl,ha,at0,rfl,_,rfl,Z5 (by decide +kernel) ?_⟩
  refine ⟨_,rfl,a,_,_,_,rfl,rfl,ha,at0,rfl,_,rfl,Z5 (by decide +kernel) ?_⟩
  exact ⟨_,rfl,q v u wt H iu (Wr.of es hw) ((Y5.refl fe).mono (by omega))⟩
 | text nn =>
  obtain ⟨a,ws,rfl,ha,at'⟩:=isv
  obtain ⟨w1,w2,rfl,i1,i2⟩:=are2 at'
  cases (show w1=.str "text" from i1)
  refine ⟨_,rfl,a,_,_,_,rfl,rfl,ha,at0,rfl,_,rfl,Z5 (by decide +kernel) ?_⟩
  refine ⟨_,rfl,a,_,_,_,rfl,rfl,ha,at0,rfl,_,rfl,Z5 (by decide +kernel) ?_⟩
  refine ⟨_,rfl,a,_,_,_,rfl,rfl,ha,at0,rfl,_,rfl,Z5 (by decide +kernel) ?_⟩
  refine ⟨_,rfl,a,_,_,_,rfl,rfl,ha,at0,rfl,_,rfl,Z5 (by decide +kernel) ?_⟩
  exact ⟨_,rfl,q v u wt H iu (Wr.of es hw) ((Y5.refl fe).mono (by omega))⟩
 | row b y nn =>
  obtain ⟨a,ws,rfl,ha,at'⟩:=isv
  obtain ⟨w1,w2,w3,rfl,i1,i2,i3⟩:=are3 at'
  cases (show w2=.str y from i2)
  cases b with
  | true =>
   obtain ⟨l0,l3,hl,rfl,rfl⟩:=hw
   cases (show w1=.str "row" from i1)
   obtain ⟨pa,xs,rfl,hpa,axs⟩:=iu
   refine ⟨_,rfl,a,_,_,_,rfl,rfl,ha,at0,rfl,_,rfl,Yh (by decide +kernel) ?_⟩
   refine ⟨_,rfl,pa,rfl,⟨_,hpa⟩,fun D fp sx hD=>?_⟩
   have nDl:D≠l:=fe.ne hD
   have lx:xs.length=l0.length:=by rw [<-axs.length,List.length_map]
   refine comp_tup (K:=K) (xs:=xs) (fun i ys σ H5=>(∃ o1,σ=[o1,some (.ref l),some (.ref e),some (.ref a)])/\Y5 l (r+(3 - i) * (WB n / 5)) H H5/\H5 D=some (.lst ys)/\∃ l1:List Kuw,l1.length=i/\(∀ e∈l1,e.k∈V3/\Wr' false ms n y e.u e.w)/\Zw K H5 (l1.map Kuw.u) ys)
    ⟨⟨_,rfl⟩,((Y5.refl fe).lay hD).mono (by omega),Zz,[],rfl,fun e m=>absurd m List.not_mem_nil,rfl⟩ ?_ ?_ ?_
   ·rintro i ys σ H5 hi ⟨_,t5,h5,_⟩
    exact ⟨(t5.upT (K:=K) fe).tup _ _ hpa,h5⟩
   ·rintro i xv ys σ H5 hx ⟨⟨o1,rfl⟩,t5,h5,l1,le,hl1,a1⟩
    have hi:i<l0.length:=by rw [<-lx]; exact (List.getElem?_eq_some_iff.mp hx).1
    obtain ⟨t,et,it⟩:=axs.got hx
    rw [List.getElem?_map] at et
    obtain ⟨en,ee,rfl⟩:=Option.map_eq_some_iff.mp et
    obtain ⟨hk,hwn⟩:=hl en (List.mem_of_getElem? ee)
    obtain ⟨n',rfl⟩:=wild_lt hwn
    have wbe:WB (n'+1)=5 * WB n'+300:=rfl
    have wb6:WB n'<=WB (n'+1) / 5:=by omega
    generalize WB (n'+1) / 5=vd at *
    have eb:(3 - i) * vd=(3 - (i+1)) * vd+vd:=by rw [show 3 - i=(3 - (i+1))+1 by omega,Nat.add_mul,Nat.one_mul]
    have u5:=t5.upT (K:=K) fe
    refine Vk ?_
    refine ⟨_,rfl,_,rfl,_,rfl,a,_,_,_,rfl,rfl,u5.tup _ _ ha,Va,_,rfl,l,e,S,ms,y,en.u,en.w,xv,r+(3 - (i+1)) * vd,rfl,mk.up u5,mo,hwn,Zd.up u5 _ _ it,t5.feed.mono (by omega),fun v' u' w' H6 iv hw6 t6=>?_⟩
    have t7:=t5.trans t6
    have h7:=t6.keep _ _ nDl h5
    have u7:Vc K H5 _:=t6.upT (K:=K) t5.feed
    have i7:=iv
    refine ⟨h7, ?_,⟨_,rfl⟩,t7.put hD (fe.far hD),Zz,l1++[⟨en.k,u',w'⟩],by rw [List.length_append,List.length_singleton,le],fun z mz=>?_, ?_⟩
    ·rw [<-a1.length,List.length_map,le]; exact Yq (by omega)
    ·rcases List.mem_append.mp mz with mz | mz
     ·exact hl1 z mz
     ·rw [List.mem_singleton.mp mz]; exact ⟨hk,hw6⟩
    ·rw [List.map_append]
     have uS:Vc K _ (Z3 _ D (.lst (ys++[v']))):=Yv h7
     exact Zw.append (Zw.up (u7.trans uS) _ _ a1) (Zw.one (Zd.up uS _ _ i7))
   ·rintro ys σ H5 ⟨_,t5,h5,l1,le,hl1,a1⟩
    refine ⟨D,ys,rfl,.inl ⟨Z0.of h5,fun p3 hp3=>?_⟩⟩
    have s3:=Zv.lay (o:=.tup ys) hp3
    exact q _ (.tup (l1.map Kuw.u)) _ _ ⟨p3,ys,rfl,Z6.of Zz,Zw.up s3.upT _ _ a1⟩ (Wr.of es ⟨l1,by omega,hl1,rfl,rfl⟩) ((t5.same s3).mono (by omega))
  | false =>
   obtain ⟨l0,l3,hl,rfl,rfl⟩:=hw
   cases (show w1=.str "map" from i1)
   obtain ⟨pa,xs,rfl,hpa,axs⟩:=iu
   refine ⟨_,rfl,a,_,_,_,rfl,rfl,ha,at0,rfl,_,rfl,Z5 (by decide +kernel) ?_⟩
   refine ⟨_,rfl,a,_,_,_,rfl,rfl,ha,at0,rfl,_,rfl,Yh (by decide +kernel) ?_⟩
   refine ⟨_,rfl,pa,rfl,⟨_,hpa⟩,fun D fp sx hD=>?_⟩
   have nDl:D≠l:=fe.ne hD
   have lx:xs.length=l0.length:=by rw [<-axs.length,List.length_map]
   refine comp_tup (K:=K) (xs:=xs) (fun i ys σ H5=>(∃ o1 o2,σ=[o1,o2,some (.ref l),some (.ref e),some (.ref a)])/\Y5 l (r+(3 - i) * (WB n / 5)) H H5/\H5 D=some (.lst ys)/\∃ l1:List Kuw,l1.length=i/\(∀ e∈l1,e.k∈V3/\Wr' false ms n y e.u e.w)/\Zw K H5 (l1.map (fun e=>Th.tup [.str e.k,e.u])) ys)
    ⟨⟨_,_,rfl⟩,((Y5.refl fe).lay hD).mono (by omega),Zz,[],rfl,fun e m=>absurd m List.not_mem_nil,rfl⟩ ?_ ?_ ?_
   ·rintro i ys σ H5 hi ⟨_,t5,h5,_⟩
    exact ⟨(t5.upT (K:=K) fe).tup _ _ hpa,h5⟩
   ·rintro i xv ys σ H5 hx ⟨⟨o1,o2,rfl⟩,t5,h5,l1,le,hl1,a1⟩
    have hi:i<l0.length:=by rw [<-lx]; exact (List.getElem?_eq_some_iff.mp hx).1
    obtain ⟨t,et,it⟩:=axs.got hx
    rw [List.getElem?_map] at et
    obtain ⟨en,ee,rfl⟩:=Option.map_eq_some_iff.mp et
    obtain ⟨hk,hwn⟩:=hl en (List.mem_of_getElem? ee)
    obtain ⟨n',rfl⟩:=wild_lt hwn
    have wbe:WB (n'+1)=5 * WB n'+300:=rfl
    have wb6:WB n'<=WB (n'+1) / 5:=by omega
    generalize WB (n'+1) / 5=vd at *
    have eb:(3 - i) * vd=(3 - (i+1)) * vd+vd:=by rw [show 3 - i=(3 - (i+1))+1 by omega,Nat.add_mul,Nat.one_mul]
    have u5:=t5.upT (K:=K) fe
    obtain ⟨pb,zs,rfl,hpb,azs⟩:=Zd.up u5 _ _ it
    obtain ⟨z1,z2,rfl,k1,k2⟩:=are2 azs
    cases (show z1=.str en.k from k1)
    refine ⟨pb,_,rfl,hpb,rfl,_,_,rfl,_,_,rfl,rfl, ?_⟩
    refine alw ?_
    refine ⟨_,rfl,_,rfl,_,rfl,_,rfl,a,_,_,_,rfl,rfl,u5.tup _ _ ha,Va,_,rfl,l,e,S,ms,y,en.u,en.w,z2,r+(3 - (i+1)) * vd,rfl,mk.up u5,mo,hwn,k2,t5.feed.mono (by omega),fun v' u' w' H6 iv hw6 t6=>⟨(sz 2),fun e2 h2=>?_⟩⟩
    have s2:=Zv.lay (o:=.tup [.str en.k,v']) h2
    have t7:=(t5.trans t6).same s2
    have h7:=s2 _ _ (t6.keep _ _ nDl h5)
    have u7:Vc K H5 _:=(t6.upT (K:=K) t5.feed).trans s2.upT
    have i7:Zd K _ (.tup [.str en.k,u']) (.ref e2):=⟨e2,_,rfl,Z6.of Zz,_,_,rfl,rfl,_,_,rfl,Zd.up s2.upT _ _ iv,rfl⟩
    refine ⟨h7, ?_,⟨_,_,rfl⟩,t7.put hD (fe.far hD),Zz,l1++[⟨en.k,u',w'⟩],by rw [List.length_append,List.length_singleton,le],fun z mz=>?_, ?_⟩
    ·rw [<-a1.length,List.length_map,le]; exact Yq (by omega)
    ·rcases List.mem_append.mp mz with mz | mz
     ·exact hl1 z mz
     ·rw [List.mem_singleton.mp mz]; exact ⟨hk,hw6⟩
    ·rw [List.map_append]
     have uS:Vc K _ (Z3 _ D (.lst (ys++[.ref e2]))):=Yv h7
     exact Zw.append (Zw.up (u7.trans uS) _ _ a1) (Zw.one (Zd.up uS _ _ i7))
   ·rintro ys σ H5 ⟨_,t5,h5,l1,le,hl1,a1⟩
    refine ⟨D,ys,rfl,.inl ⟨Z0.of h5,fun p3 hp3=>?_⟩⟩
    have s3:=Zv.lay (o:=.tup ys) hp3
    exact q _ (.tup (l1.map (fun e=>Th.tup [.str e.k,e.u]))) _ _ ⟨p3,ys,rfl,Z6.of Zz,Zw.up s3.upT _ _ a1⟩ (Wr.of es ⟨l1,by omega,hl1,rfl,rfl⟩) ((t5.same s3).mono (by omega))
 | rcd fs us =>
  obtain ⟨l0,os,ps,rfl,hl,ho,rfl,hp,sp,rfl⟩:=hw
  have pr:Vg ms (l0.map Ent.f):=shk
  have l5:l0.length<=5:=by have:=pr.len; rw [List.length_map] at this; exact this
  obtain ⟨a,ws,rfl,ha,at'⟩:=isv
  obtain ⟨w1,w2,w3,rfl,i1,i2,i3⟩:=are3 at'
  cases (show w1=.str "record" from i1)
  obtain ⟨fa,fws,rfl,hfa,afs⟩:=i2
  obtain ⟨pa,xs,rfl,hpa,axs⟩:=iu
  obtain ⟨z1,z2,rfl,k1,k2⟩:=are2 axs
  obtain ⟨ka,kx,rfl,hka,akx⟩:=k1
  have lfw:fws.length=l0.length:=by rw [<-afs.length,List.length_map,List.length_map]
  have lkx:kx.length=l0.length:=by rw [<-akx.length,List.length_map]
  refine ⟨_,rfl,a,_,_,_,rfl,rfl,ha,at0,rfl,_,rfl,Z5 (by decide +kernel) ?_⟩
  refine ⟨_,rfl,a,_,_,_,rfl,rfl,ha,at0,rfl,_,rfl,Z5 (by decide +kernel) ?_⟩
  refine ⟨_,rfl,a,_,_,_,rfl,rfl,ha,at0,rfl,_,rfl,Yh (by decide +kernel) ?_⟩
  refine ⟨_,rfl,a,_,_,_,rfl,rfl,ha,Va,_,rfl,pa,_,_,_,rfl,rfl,hpa,at0,fa,ka,rfl,⟨_,hfa⟩,⟨_,hka⟩,fun D fp sx hD=>?_⟩
  have nDl:D≠l:=fe.ne hD
  refine comp_zipT (K:=K) (xs:=fws) (ys:=kx) (fun i ys σ H5=>(∃ o1 o2,σ=[o1,o2,some (.ref l),some (.ref e)])/\Y5 l (r+300+(5 - i) * ((WB n - 300) / 5)) H H5/\H5 D=some (.lst ys)/\∃ l1:List Ent,l1.map Ent.f=(l0.map Ent.f).take i/\(∀ t∈l1,Wr' false ms n t.f.y t.u t.w)/\Zw K H5 (l1.map Ent.u) ys)
   ⟨⟨_,_,rfl⟩,((Y5.refl fe).lay hD).mono (by omega),Zz,[],rfl,fun e m=>absurd m List.not_mem_nil,rfl⟩ ?_ ?_ ?_
  ·rintro i ys σ H5 hi ⟨_,t5,h5,_⟩
   have u5:=t5.upT (K:=K) fe
   exact ⟨u5.tup _ _ hfa,u5.tup _ _ hka,h5⟩
  ·rintro i xv yv p ys σ H5 hx hy ⟨⟨o1,o2,rfl⟩,t5,h5,l1,le,hl1,a1⟩ hpn
   have hi:i<l0.length:=by rw [<-lfw]; exact (List.getElem?_eq_some_iff.mp hx).1
   obtain ⟨t,et,it⟩:=afs.got hx
   rw [List.getElem?_map,List.getElem?_map] at et
   obtain ⟨en,ee,rfl⟩:∃ en,l0[i]?=some en/\en.f.t=t:=by
    cases z:l0[i]? with
    | none=>rw [z] at et; cases et
    | some en=>rw [z] at et; exact ⟨en,rfl,Option.some.inj et⟩
   obtain ⟨t2,et2,iu⟩:=akx.got hy
   rw [List.getElem?_map,ee] at et2
   cases et2
   have hwn:=hl en (List.mem_of_getElem? ee)
   obtain ⟨n',rfl⟩:=wild_lt hwn
   have wbe:WB (n'+1)=5 * WB n'+300:=rfl
   have wb6:WB n'=(WB (n'+1) - 300) / 5:=by omega
   rw [<-wb6] at t5 ⊢
   have eb:(5 - i) * WB n'=(5 - (i+1)) * WB n'+WB n':=by rw [show 5 - i=(5 - (i+1))+1 by omega,Nat.add_mul,Nat.one_mul]
   have sP:=Zv.lay (o:=.tup [xv,yv]) hpn
   have t6:=t5.same sP
   have u6:=t6.upT (K:=K) fe
   obtain ⟨b,bs,rfl,hb,ab⟩:=it
   obtain ⟨b1,b2,b3,b4,rfl,j1,j2,j3,j4⟩:=are4 ab
   cases (show b3=.str en.f.y from j3)
   refine ⟨p,_,rfl,Z6.of Zz,rfl,_,_,rfl,_,_,rfl,rfl, ?_⟩
   refine alw ?_
   refine ⟨_,rfl,_,rfl,_,rfl,b,_,_,_,rfl,rfl,u6.tup _ _ hb,at2,_,rfl,l,e,S,ms,en.f.y,en.u,en.w,yv,r+300+(5 - (i+1)) * WB n',rfl,mk.up u6,mo,hwn,Zd.up u6 _ _ iu,t6.feed.mono (by omega),fun v' u' w' H7 iv hw7 t7=>?_⟩
   have h7:=t7.keep _ _ nDl (sP _ _ h5)
   have u7:Vc K H5 H7:=sP.upT.trans (t7.upT (K:=K) t6.feed)
   refine ⟨h7, ?_,⟨_,_,rfl⟩,(t6.trans t7).put hD (fe.far hD),Zz,l1++[⟨en.f,u',w'⟩], ?_,fun z mz=>?_, ?_⟩
   ·have:=congrArg List.length le
    rw [List.length_map,List.length_take,List.length_map] at this
    rw [<-a1.length,List.length_map]; exact Yq (by omega)
   ·rw [List.map_append,le,Zr (x:=en.f) (by rw [List.getElem?_map,ee]; rfl)]; rfl
   ·rcases List.mem_append.mp mz with mz | mz
    ·exact hl1 z mz
    ·rw [List.mem_singleton.mp mz]; exact hw7
   ·rw [List.map_append]
    have uS:Vc K _ (Z3 _ D (.lst (ys++[v']))):=Yv h7
    exact Zw.append (Zw.up (u7.trans uS) _ _ a1) (Zw.one (Zd.up uS _ _ iv))
  ·rintro ys σ H5 ⟨⟨o1,o2,rfl⟩,t5,h5,l1,le,hl1,a1⟩
   have t5:=t5.mono (r':=r+300) (by omega)
   rw [lfw,lkx,Nat.min_self,List.take_of_length_le (by rw [List.length_map]; exact Nat.le_refl _)] at le
   have u5:=t5.upT (K:=K) fe
   have f5:=Zw.up u5 _ _ afs
   refine ⟨_,rfl,a,_,_,_,rfl,rfl,u5.tup _ _ ha,Va,fa,rfl,⟨_,u5.tup _ _ hfa⟩,fun D2 fp2 sx2 hD2=>?_⟩
   refine compT_tup (f:=numTh) (u5.tup _ _ hfa) f5 (by rw [List.length_map,List.length_map]; omega) hD2 (fun t v H5 Q5 mt s5 i5 q5=>?_) fun H6 w6 s6 h6 a6=>?_
   ·obtain ⟨fl,mfl,rfl⟩:=List.mem_map.mp mt
    obtain ⟨b,bs,rfl,hb,y1,yr,rfl,iy,_⟩:=i5
    exact ⟨_,rfl,b,_,_,_,rfl,rfl,hb,at0,q5 y1 H5 (Zv.refl H5) iy⟩
   rw [(fld_nums (l0.map Ent.f)).1] at a6
   have ew:=are_ints a6
   subst ew
   have t6:=t5.same s6
   have nD2l:D2≠l:=t5.feed.ne hD2
   refine ⟨(sz 6),fun L hL=>⟨L,rfl,⟨_,Z0.of Zz⟩,fun D3 fp3 sx3 hD3=>?_⟩⟩
   have sL:=Zv.lay (o:=.lst (OTH.map V.int)) hL
   have t7:=t6.same sL
   have nLl:L≠l:=t6.feed.ne hL
   have nD3l:D3≠l:=t7.feed.ne hD3
   have h7D2:=sL _ _ h6
   have h7D:=sL _ _ (s6 _ _ h5)
   have h7L:Z3 H6 L (.lst (OTH.map V.int)) L=some (.lst (OTH.map V.int)):=Zz
   refine Vz (K:=K) (xs:=OTH.map V.int) (fun i ys σ H8=>(∃ o,σ=[o,some (.ref D2),some (.ref l)])/\(∃ ns:List Int,ys=ns.map V.int/\ns.Sublist (OTH.take i)/\∀ u∈ns,u ∉ (l0.map Ent.f).map Vm.n)/\Y5 l (r+280+(6 - i)) (Z3 H6 L (.lst (OTH.map V.int))) H8/\H8 D3=some (.lst ys))
    ⟨⟨_,rfl⟩,⟨[],rfl,.slnil,fun u mu=>absurd mu List.not_mem_nil⟩,((Y5.refl t7.feed).lay hD3).mono (by omega),Zz⟩ ?_ ?_ ?_
   ·rintro i ys σ H8 hi ⟨_,_,t8,h8⟩
    exact ⟨Z0.of (t8.keep _ _ nLl h7L),h8⟩
   ·rintro i xv ys σ H8 hx ⟨⟨o,rfl⟩,⟨ns,rfl,sb,nn⟩,t8,h8⟩
    rw [List.getElem?_map] at hx
    obtain ⟨nb,en,rfl⟩:=Option.map_eq_some_iff.mp hx
    have hi:i<6:=(List.getElem?_eq_some_iff.mp en).1
    have tm:=Zr en
    refine goOn ?_
    refine ⟨_,rfl,_,rfl,D2,_,rfl,.inl (Z0.of (t8.keep _ _ nD2l h7D2)),rfl,flat_ints _,_,rfl, ?_⟩
    show if (!inV (.int nb) (((l0.map Ent.f).map Vm.n).map V.int))=true then _ else _
    rw [inV_int]
    refine V1 (fun cm=>?_) (fun cm=>?_)
    ·have cm':nb ∉ (l0.map Ent.f).map Vm.n:=by simpa using cm
     refine ⟨_,rfl,l,3,r+280+(6 - (i+1)),rfl,t8.feed.mono (by omega),by decide,by decide,fun z H9 z0 z1 t9=>?_⟩
     have h9:=t9.keep _ _ nD3l h8
     refine ⟨rfl,_,rfl, ?_⟩
     refine V1 (fun c=>?_) (fun c=>?_)
     ·refine ⟨_,rfl,h9, ?_,⟨_,rfl⟩,⟨ns++[nb],by rw [List.map_append]; rfl, ?_, ?_⟩,(t8.trans t9).put hD3 (t7.feed.far hD3),Zz⟩
      ·have:=sb.length_le
       rw [List.length_take] at this
       rw [List.length_map]; exact Yq (by omega)
      ·rw [tm]; exact sb.append (List.Sublist.refl _)
      ·intro u mu
       rcases List.mem_append.mp mu with mu | mu
       ·exact nn u mu
       ·rw [List.mem_singleton.mp mu]; exact cm'
     ·exact ⟨⟨_,rfl⟩,⟨ns,rfl,by rw [tm]; exact sb.trans (List.sublist_append_left _ _),nn⟩,t8.trans t9,h9⟩
    ·exact ⟨⟨_,rfl⟩,⟨ns,rfl,by rw [tm]; exact sb.trans (List.sublist_append_left _ _),nn⟩,t8.mono (by omega),h8⟩
   ·rintro ys' σ H8 ⟨⟨o,rfl⟩,⟨ns,rfl,sb,nn⟩,t8,h8⟩
    have sb:ns.Sublist OTH:=sb.trans (List.take_sublist _ _)
    have ln:ns.length<=6:=sb.length_le
    have t8:=t8.mono (r':=r+280) (by omega)
    have h8D:=t8.keep _ _ nDl h7D
    refine ⟨_,rfl,D,ys,rfl,.inl ⟨Z0.of h8D,fun p1 hp1=>?_⟩⟩
    have s9:=Zv.lay (o:=.tup ys) hp1
    have t9:=(t7.trans t8).same s9
    have u9:Vc K H5 _:=(s6.trans sL).upT.trans ((t8.upT (K:=K) t7.feed).trans s9.upT)
    have a9:=Zw.up u9 _ _ a1
    have h9:=s9 _ _ h8
    have hp9:Z3 H8 p1 (.tup ys) p1=some (.tup ys):=Zz
    refine ⟨_,rfl,D3,rfl,⟨_,Z0.of h9⟩,fun D4 fp4 sx4 hD4=>?_⟩
    have nD4l:D4≠l:=t9.feed.ne hD4
    refine Vz (K:=K) (xs:=ns.map V.int) (fun i zs σ H10=>(∃ o,σ=[o,some (.ref l)])/\Y5 l (r+(6 - i) * IB 2) (Z3 H8 p1 (.tup ys)) H10/\H10 D4=some (.lst zs)/\∃ qs:List (Int × Th),qs.map (·.1)=ns.take i/\(∀ q∈qs,Gd 4000 8 q.2)/\Zw K H10 (qs.map prT) zs)
     ⟨⟨_,rfl⟩,((Y5.refl t9.feed).lay hD4).mono (by show r+6 * IB 2<=_; rw [show IB 2=30 from rfl]; omega),Zz,[],rfl,fun q m=>absurd m List.not_mem_nil,rfl⟩ ?_ ?_ ?_
    ·rintro i zs σ H10 hi ⟨_,t10,h10,_⟩
     exact ⟨Z0.of (t10.keep _ _ nD3l h9),h10⟩
    ·rintro i xv zs σ H10 hx ⟨⟨o,rfl⟩,t10,h10,qs,eq,gq,aq⟩
     rw [List.getElem?_map] at hx
     obtain ⟨nb,en,rfl⟩:=Option.map_eq_some_iff.mp hx
     have hi:i<ns.length:=(List.getElem?_eq_some_iff.mp en).1
     have eb:(6 - i) * IB 2=(6 - (i+1)) * IB 2+IB 2:=by rw [show 6 - i=(6 - (i+1))+1 by omega,Nat.add_mul,Nat.one_mul]
     refine Vk ?_
     refine ⟨_,rfl,_,rfl,l,r+(6 - (i+1)) * IB 2,rfl,t10.feed.mono (by omega),fun v' u' H11 iv gv t11=>⟨(sz 2),fun e2 h2=>?_⟩⟩
     have s12:=Zv.lay (o:=.tup [.int nb,v']) h2
     have h12:=s12 _ _ (t11.keep _ _ nD4l h10)
     have u12:Vc K H10 _:=(t11.upT (K:=K) t10.feed).trans s12.upT
     refine ⟨h12, ?_,⟨_,rfl⟩,((t10.trans t11).same s12).put hD4 (t9.feed.far hD4),Zz,qs++[(nb,u')], ?_,fun z mz=>?_, ?_⟩
     ·rw [<-aq.length,List.length_map, <-List.length_map (·.1),eq,List.length_take]; exact Yq (by omega)
     ·rw [List.map_append,eq,Zr en]; rfl
     ·rcases List.mem_append.mp mz with mz | mz
      ·exact gq z mz
      ·rw [List.mem_singleton.mp mz]; exact gv.mono (by decide) (by decide)
     ·rw [List.map_append]
      have uS:Vc K _ (Z3 _ D4 (.lst (zs++[.ref e2]))):=Yv h12
      exact Zw.append (Zw.up (u12.trans uS) _ _ aq) (Zw.one (Zd.up uS _ _ ⟨e2,_,rfl,Z6.of Zz,_,_,rfl,rfl,_,_,rfl,Zd.up s12.upT _ _ iv,rfl⟩))
    ·rintro zs σ H10 ⟨_,t10,h10,qs,eq,gq,aq⟩
     rw [List.take_of_length_le (by rw [List.length_map]; exact Nat.le_refl _)] at eq
     refine ⟨D4,zs,rfl,.inl ⟨Z0.of h10,fun p2 hp2=>⟨(sz 2),fun p3 hp3=>?_⟩⟩⟩
     have s11:=Zv.lay (o:=.tup zs) hp2
     have s12:=Zv.lay (o:=.tup [.ref p1,.ref p2]) hp3
     have u10:Vc K _ H10:=t10.upT (K:=K) t9.feed
     have uE:=u10.trans (s11.trans s12).upT
     have oth:OsOk false (l1.map Ent.f) qs:=by
      refine ⟨fun z=>(nomatch z),by rw [eq]; exact List.Nodup.sublist sb (by decide),by rw [<-List.length_map (·.1),eq]; exact ln,fun o mo'=>?_⟩
      have mn:o.1∈ns:=by rw [<-eq]; exact List.mem_map_of_mem mo'
      have b:=oth_in o.1 (sb.subset mn)
      exact ⟨by rw [le]; exact nn _ mn,b.1,b.2,gq o mo'⟩
     obtain ⟨wn,hwn⟩:=mk_rec (us:=us) hl1 oth
     rw [le] at hwn
     refine q _ (.tup [.tup (l1.map Ent.u),.tup (qs.map prT)]) wn _ ⟨p3,_,rfl,Z6.of Zz,_,_,rfl,⟨p1,ys,rfl,uE.tup _ _ (Z6.of hp9),Zw.up uE _ _ a9⟩,_,_,rfl,⟨p2,zs,rfl,s12.up _ _ (Z6.of Zz),Zw.up (s11.trans s12).upT _ _ aq⟩,rfl⟩ (Wr.of es hwn) (((t9.trans t10).same (s11.trans s12)).mono (by omega))
 | cho fs us o =>
  have pr:Vg ms fs:=shk.1
  have nd:(fs.map Vm.n).Nodup:=List.Nodup.sublist pr.nums (by decide)
  have l5:=pr.len
  obtain ⟨a,ws,rfl,ha,at'⟩:=isv
  obtain ⟨w1,w2,w3,w4,rfl,i1,i2,i3,i4⟩:=are4 at'
  cases (show w1=.str "choice" from i1)
  cases (show w4=.bl o from i4)
  obtain ⟨fa,fws,rfl,hfa,afs⟩:=i2
  obtain ⟨g,mg',u',w',hw',rfl,rfl⟩:∃ f∈fs,∃ u' w',Wr' true ms n f.y u' w'/\u=.tup [.str "arm",.int f.n,u']/\wt=.tup [.str "arm",.int f.n,w']:=by
   rcases hw with hw | ⟨z,_⟩
   ·exact hw
   ·cases z
  obtain ⟨n',rfl⟩:=wild_lt hw'
  have wbe:WB (n'+1)=5 * WB n'+300:=rfl
  obtain ⟨pa,xs,rfl,hpa,axs⟩:=iu
  obtain ⟨z1,z2,z3,rfl,k1,k2,k3⟩:=are3 axs
  cases (show z1=.str "arm" from k1)
  cases (show z2=.int g.n from k2)
  refine ⟨_,rfl,a,_,_,_,rfl,rfl,ha,at0,rfl,_,rfl,Z5 (by decide +kernel) ?_⟩
  refine ⟨_,rfl,a,_,_,_,rfl,rfl,ha,at0,rfl,_,rfl,Z5 (by decide +kernel) ?_⟩
  refine ⟨_,rfl,a,_,_,_,rfl,rfl,ha,at0,rfl,_,rfl,Z5 (by decide +kernel) ?_⟩
  refine ⟨_,rfl,a,_,_,_,rfl,rfl,ha,at0,rfl,_,rfl,Yh (by decide +kernel) ?_⟩
  refine ⟨_,rfl,a,_,_,_,rfl,rfl,ha,Va,fa,rfl,⟨_,hfa⟩,fun D2 fp2 sx2 hD2=>?_⟩
  refine compT_tup (f:=numTh) hfa afs (by rw [List.length_map]; omega) hD2 (fun t v H5 Q5 mt s5 i5 q5=>?_) fun H6 w6 s6 h6 a6=>?_
  ·obtain ⟨fl,mfl,rfl⟩:=List.mem_map.mp mt
   obtain ⟨b,bs,rfl,hb,y1,yr,rfl,iy,_⟩:=i5
   exact ⟨_,rfl,b,_,_,_,rfl,rfl,hb,at0,q5 y1 H5 (Zv.refl H5) iy⟩
  rw [(fld_nums fs).2] at a6
  have ew:=are_ints a6
  subst ew
  refine ⟨(sz 6),fun L hL=>⟨L,rfl,⟨_,Z0.of Zz⟩,fun D3 fp3 sx3 hD3=>?_⟩⟩
  have sL:=Zv.lay (o:=.lst (OTH.map V.int)) hL
  have h7D2:=sL _ _ h6
  have h7L:Z3 H6 L (.lst (OTH.map V.int)) L=some (.lst (OTH.map V.int)):=Zz
  refine Vz (K:=K) (xs:=OTH.map V.int) (fun i ys σ H8=>(∃ o,σ=[o,some (.ref D2)])/\ys=((OTH.take i).filter fun z=>decide (z ∉ fs.map Vm.n)).map V.int/\Zv (Z3 H6 L (.lst (OTH.map V.int))) H8/\H8 D3=some (.lst ys)) ⟨⟨_,rfl⟩,rfl,Zv.lay hD3,Zz⟩ ?_ ?_ ?_
  ·rintro i ys σ H8 hi ⟨_,_,s8,h8⟩
   exact ⟨Z0.of (s8 _ _ h7L),h8⟩
  ·rintro i xv ys σ H8 hx ⟨⟨o,rfl⟩,ey,s8,h8⟩
   rw [List.getElem?_map] at hx
   obtain ⟨nb,en,rfl⟩:=Option.map_eq_some_iff.mp hx
   have hi:i<6:=(List.getElem?_eq_some_iff.mp en).1
   refine goOn ?_
   refine ⟨_,rfl,_,rfl,D2,_,rfl,.inl (Z0.of (s8 _ _ h7D2)),rfl,flat_ints _,_,rfl, ?_⟩
   show if (!inV (.int nb) ((fs.map Vm.n).map V.int))=true then _ else _
   rw [inV_int]
   refine V1 (fun cm=>?_) (fun cm=>?_)
   ·have cm':nb ∉ fs.map Vm.n:=by simpa using cm
    refine ⟨_,rfl,h8, ?_,⟨_,rfl⟩, ?_,s8.put hD3,Zz⟩
    ·rw [ey,List.length_map]
     exact Yq (Nat.le_trans (List.length_filter_le _ _) (by rw [List.length_take]; omega))
    ·rw [Zr en,List.filter_append,List.map_append, <-ey,List.filter_cons,if_pos (decide_eq_true cm')]; rfl
   ·have cm':¬ nb ∉ fs.map Vm.n:=by simpa using cm
    refine ⟨⟨_,rfl⟩, ?_,s8,h8⟩
    rw [Zr en,List.filter_append,List.map_append, <-ey,List.filter_cons,if_neg (by simpa using cm')]
    exact (List.append_nil _).symm
  ·rintro ys σ H8 ⟨⟨o',rfl⟩,ey,s8,h8⟩
   rw [List.take_of_length_le (by decide)] at ey
   have s68:=s6.trans (sL.trans s8)
   have t8:=(Y5.refl fe).same s68
   have ha8:=s68.up _ _ ha
   have hpa8:=s68.up _ _ hpa
   have ne:1<=(OTH.filter fun z=>decide (z ∉ fs.map Vm.n)).length:=by
    have m4:(4:Int)∈OTH.filter fun z=>decide (z ∉ fs.map Vm.n):=List.mem_filter.mpr ⟨by decide,decide_eq_true fun z=>absurd (pr.nums.subset z) (by decide)⟩
    exact List.length_pos_of_mem m4
   have l6:(OTH.filter fun z=>decide (z ∉ fs.map Vm.n)).length<=6:=List.length_filter_le _ _
   refine ⟨_,rfl,a,_,_,_,rfl,rfl,ha8,at3,o,rfl, ?_⟩
   cases o with
   | false =>
    refine Z5 rfl (iteF ?_)
    have tT:=t8.mono (r':=r+WB n') (by omega)
    have uT:=tT.upT (K:=K) fe
    have haT:=uT.tup _ _ ha
    have hpaT:=uT.tup _ _ hpa
    have hfaT:=uT.tup _ _ hfa
    have afT:=Zw.up uT _ _ afs
    refine ⟨_,rfl,a,_,_,_,rfl,rfl,haT,Va,fa,rfl,⟨_,hfaT⟩,fun D5 fp5 sx5 hD5=>?_⟩
    refine comp_tup (K:=K) (xs:=fws) (fun i ys σ H5=>(∃ o,σ=[o,some (.ref pa)])/\ys=((fs.take i).filter fun f=>decide (f.n=g.n)).map (fun f=>V.str f.y)/\Zv _ H5/\H5 D5=some (.lst ys)) ⟨⟨_,rfl⟩,rfl,Zv.lay hD5,Zz⟩ ?_ ?_ ?_
    ·rintro i ys σ H5 hi ⟨_,_,g5,h5⟩
     exact ⟨g5.up _ _ hfaT,h5⟩
    ·rintro i x ys σ H5 hx ⟨⟨o,rfl⟩,ey,g5,h5⟩
     obtain ⟨t,et,it⟩:=afT.got hx
     rw [List.getElem?_map] at et
     obtain ⟨fl,ef,rfl⟩:=Option.map_eq_some_iff.mp et
     obtain ⟨b,bs,rfl,hb,ab⟩:=Zd.up g5.upT _ _ it
     obtain ⟨b1,b2,b3,rfl,j1,j2,j3⟩:=are3 ab
     cases (show b1=.int fl.n from j1)
     cases (show b3=.str fl.y from j3)
     refine goOn ?_
     refine ⟨_,rfl,b,_,_,_,rfl,rfl,hb,at0,_,rfl,pa,_,_,_,rfl,rfl,g5.up _ _ hpaT,Va,rfl,_,rfl, ?_⟩
     refine V1 (fun c=>?_) (fun c=>?_)
     ·have c:fl.n=g.n:=by injection of_decide_eq_true c
      refine ⟨_,rfl,b,_,_,_,rfl,rfl,hb,at2,h5, ?_,⟨_,rfl⟩, ?_,g5.put hD5,Zz⟩
      ·rw [ey,List.length_map]
       exact Yq (Nat.le_trans (List.length_filter_le _ _) (by rw [List.length_take]; omega))
      ·rw [Zr ef,List.filter_append,List.map_append, <-ey]
       simp [c]
     ·have c:¬ fl.n=g.n:=fun z=>c (by rw [z]; exact decide_eq_true rfl)
      refine ⟨⟨_,rfl⟩, ?_,g5,h5⟩
      rw [Zr ef,List.filter_append,List.map_append, <-ey]
      simp [c]
    ·rintro ys σ H5 ⟨_,ey,g5,h5⟩
     have lf:=afs.length
     rw [List.length_map] at lf
     rw [<-lf,List.take_length,filt_one nd mg'] at ey
     subst ey
     refine ⟨_,rfl,_,rfl,pa,_,rfl,g5.up _ _ hpaT,fun p5 H10 s10 h10=>?_⟩
     have sT:=g5.trans s10
     have tU:=tT.same sT
     have uU:=tU.upT (K:=K) fe
     refine ⟨_,rfl,_,rfl,_,rfl,D5,_,_,_,rfl,rfl,Z0.of (s10 _ _ h5),at0,_,rfl,pa,_,_,_,rfl,rfl,sT.up _ _ hpaT,at2,l,e,S,ms,g.y,u',w',z3,r,rfl,mk.up uU,mo,hw',Zd.up uU _ _ k3,tU.feed,fun v' u2 w2 H11 iv hw2 t11=>⟨(sz 1),fun p6 hp6=>?_⟩⟩
     have s12:=Zv.lay (o:=.tup [v']) hp6
     have u12:Vc K H10 _:=(t11.upT (K:=K) tU.feed).trans s12.upT
     refine ⟨p5,p6,_,[v'],rfl,rfl,u12.tup _ _ h10,Z6.of Zz,(sz 3),fun p7 H13 s13 h13=>?_⟩
     exact q _ (.tup [.str "arm",.int g.n,u2]) (.tup [.str "arm",.int g.n,w2]) _ ⟨p7,_,rfl,h13,_,_,rfl,rfl,_,_,rfl,rfl,_,_,rfl,Zd.up (s12.trans s13).upT _ _ iv,rfl⟩ (Wr.of es (.inl ⟨g,mg',u2,w2,hw2,rfl,rfl⟩)) ((tU.trans t11).same (s12.trans s13))
   | true =>
    refine Yh rfl ?_
    refine ⟨_,rfl,l,2,r+(WB n'+50),rfl,t8.feed.mono (by omega),by decide,by decide,fun z H9 z0 z1 t9=>⟨rfl,_,rfl, ?_⟩⟩
    have t89:=t8.trans t9
    refine V1 (fun c=>?_) (fun c=>?_)
    ·have nD3l:D3≠l:=((Y5.refl fe).same (s6.trans sL)).feed.ne hD3
     have h9:=t9.keep _ _ nD3l h8
     subst ey
     refine ⟨_,rfl,_,rfl,_,rfl,D3,_,rfl,.inl (Z0.of h9),l,_,r+40,rfl,t9.feed.mono (by omega), ?_, ?_,fun y H10 y0 y1 t10=>?_⟩
     ·rw [List.length_map]; omega
     ·rw [List.length_map]; omega
     rw [List.length_map] at y1
     obtain ⟨nb,mnb,enb⟩:=pickI (OTH.filter fun z=>decide (z ∉ fs.map Vm.n)) y0 y1
     have h10:=t10.keep _ _ nD3l h9
     refine ⟨D3,_,_,_,rfl,rfl,Z0.of h10,enb, ?_⟩
     refine ⟨_,rfl,l,r,rfl,t10.feed.mono (by rw [show IB 2=30 from rfl]; omega),fun v' u2 H11 iv gv t11=>⟨(sz 3),fun p3 hp3=>?_⟩⟩
     have s12:=Zv.lay (o:=.tup [.str "other",.int nb,v']) hp3
     obtain ⟨mo1,mo2⟩:=List.mem_filter.mp mnb
     have b:=oth_in nb mo1
     refine q _ (.tup [.str "other",.int nb,u2]) (.tup [.str "arm",.int nb,u2]) _ ⟨p3,_,rfl,Z6.of Zz,_,_,rfl,rfl,_,_,rfl,rfl,_,_,rfl,Zd.up s12.upT _ _ iv,rfl⟩ (Wr.of es (.inr ⟨rfl,nb,u2,of_decide_eq_true mo2,b.1,b.2,gv.mono (by decide) (by decide),rfl,rfl⟩)) (((t89.trans t10).trans t11).same s12)
    ·have tT:=t89.mono (r':=r+WB n') (by omega)
     have uT:=tT.upT (K:=K) fe
     have haT:=uT.tup _ _ ha
     have hpaT:=uT.tup _ _ hpa
     have hfaT:=uT.tup _ _ hfa
     have afT:=Zw.up uT _ _ afs
     refine ⟨_,rfl,a,_,_,_,rfl,rfl,haT,Va,fa,rfl,⟨_,hfaT⟩,fun D5 fp5 sx5 hD5=>?_⟩
     refine comp_tup (K:=K) (xs:=fws) (fun i ys σ H5=>(∃ o,σ=[o,some (.ref pa)])/\ys=((fs.take i).filter fun f=>decide (f.n=g.n)).map (fun f=>V.str f.y)/\Zv _ H5/\H5 D5=some (.lst ys)) ⟨⟨_,rfl⟩,rfl,Zv.lay hD5,Zz⟩ ?_ ?_ ?_
     ·rintro i ys σ H5 hi ⟨_,_,g5,h5⟩
      exact ⟨g5.up _ _ hfaT,h5⟩
     ·rintro i x ys σ H5 hx ⟨⟨o,rfl⟩,ey,g5,h5⟩
      obtain ⟨t,et,it⟩:=afT.got hx
      rw [List.getElem?_map] at et
      obtain ⟨fl,ef,rfl⟩:=Option.map_eq_some_iff.mp et
      obtain ⟨b,bs,rfl,hb,ab⟩:=Zd.up g5.upT _ _ it
      obtain ⟨b1,b2,b3,rfl,j1,j2,j3⟩:=are3 ab
      cases (show b1=.int fl.n from j1)
      cases (show b3=.str fl.y from j3)
      refine goOn ?_
      refine ⟨_,rfl,b,_,_,_,rfl,rfl,hb,at0,_,rfl,pa,_,_,_,rfl,rfl,g5.up _ _ hpaT,Va,rfl,_,rfl, ?_⟩
      refine V1 (fun c=>?_) (fun c=>?_)
      ·have c:fl.n=g.n:=by injection of_decide_eq_true c
       refine ⟨_,rfl,b,_,_,_,rfl,rfl,hb,at2,h5, ?_,⟨_,rfl⟩, ?_,g5.put hD5,Zz⟩
       ·rw [ey,List.length_map]
        exact Yq (Nat.le_trans (List.length_filter_le _ _) (by rw [List.length_take]; omega))
       ·rw [Zr ef,List.filter_append,List.map_append, <-ey]
        simp [c]
      ·have c:¬ fl.n=g.n:=fun z=>c (by rw [z]; exact decide_eq_true rfl)
       refine ⟨⟨_,rfl⟩, ?_,g5,h5⟩
       rw [Zr ef,List.filter_append,List.map_append, <-ey]
       simp [c]
     ·rintro ys σ H5 ⟨_,ey,g5,h5⟩
      have lf:=afs.length
      rw [List.length_map] at lf
      rw [<-lf,List.take_length,filt_one nd mg'] at ey
      subst ey
      refine ⟨_,rfl,_,rfl,pa,_,rfl,g5.up _ _ hpaT,fun p5 H10 s10 h10=>?_⟩
      have sT:=g5.trans s10
      have tU:=tT.same sT
      have uU:=tU.upT (K:=K) fe
      refine ⟨_,rfl,_,rfl,_,rfl,D5,_,_,_,rfl,rfl,Z0.of (s10 _ _ h5),at0,_,rfl,pa,_,_,_,rfl,rfl,sT.up _ _ hpaT,at2,l,e,S,ms,g.y,u',w',z3,r,rfl,mk.up uU,mo,hw',Zd.up uU _ _ k3,tU.feed,fun v' u2 w2 H11 iv hw2 t11=>⟨(sz 1),fun p6 hp6=>?_⟩⟩
      have s12:=Zv.lay (o:=.tup [v']) hp6
      have u12:Vc K H10 _:=(t11.upT (K:=K) tU.feed).trans s12.upT
      refine ⟨p5,p6,_,[v'],rfl,rfl,u12.tup _ _ h10,Z6.of Zz,(sz 3),fun p7 H13 s13 h13=>?_⟩
      exact q _ (.tup [.str "arm",.int g.n,u2]) (.tup [.str "arm",.int g.n,w2]) _ ⟨p7,_,rfl,h13,_,_,rfl,rfl,_,_,rfl,rfl,_,_,rfl,Zd.up (s12.trans s13).upT _ _ iv,rfl⟩ (Wr.of es (.inl ⟨g,mg',u2,w2,hw2,rfl,rfl⟩)) ((tU.trans t11).same (s12.trans s13))
end
abbrev s_law:Stmt:=top 22
abbrev N_law:List Str:=["_law_script","_law_feed_here","_law_k","_law_make_here","_law_name","_law_item_here","_law_value_here","_law_wild_here","_law_one"]
theorem sc_law:Yk N_law ["_law_script"] (Zf s_law):=by trivial
theorem up_frz {K:W.Frag} {H:Hp} {S:Addr} {kvs:List (Yt × V)} {o:HO} (h:H S=some (.dK kvs)):Up K H (Z3 H S o):=by
 have ne:∀ {x:Addr} {o:HO},H x=some o->(∀ k,o≠.dK k)->x≠S:=fun e n z=>by
  rw [z,h] at e
  cases e
  exact n _ rfl
 intro c xs q
 rcases q with (q | ⟨o,q⟩) | q
 ·exact .inl (.inl (by rw [Zk (ne q fun _ z=>nomatch z)]; exact q))
 ·exact .inl (.inr ⟨o,by rw [Zk (ne q fun _ z=>nomatch z)]; exact q⟩)
 ·exact .inr q
def spLaw (K:W.Frag) (tp:Addr):Sp:=fun vs H Q _=>∃ (a:Addr) (ns:List Int),vs=[.ref a]/\Z0 K H a (ns.map V.int)/\ns.length<=63/\Tb (TW tp) H/\∀ H',Q (.bl true) H'
theorem VW.any {W W':Str->Th->Th->Prop} (h:∀ x u w,W x u w->W' x u w) {s:Yr} {u w:Th} (v:VW W true s u w):VW W' false s u w:=by
 cases s with
 | whole _ _=>exact v
 | truth=>exact v
 | text _=>exact v
 | row b y k =>
  cases b with
  | true =>
   obtain ⟨l,l3,hl,e1,e2⟩:=v
   exact ⟨l,l3,fun e m=>⟨(hl e m).1,h _ _ _ (hl e m).2⟩,e1,e2⟩
  | false =>
   obtain ⟨l,l3,hl,e1,e2⟩:=v
   exact ⟨l,l3,fun e m=>⟨(hl e m).1,h _ _ _ (hl e m).2⟩,e1,e2⟩
 | rcd fs us =>
  obtain ⟨l,os,ps,ef,hl,ho,e1,p,sp,e2⟩:=v
  exact ⟨l,os,ps,ef,fun e m=>h _ _ _ (hl e m),⟨fun z=>(nomatch z),ho.nd,ho.len,ho.ok⟩,e1,p,sp,e2⟩
 | cho fs us o =>
  rcases v with ⟨f,mf,u',w',hw,e1,e2⟩ | ⟨z,_⟩
  ·exact .inl ⟨f,mf,u',w',h _ _ _ hw,e1,e2⟩
  ·cases z
theorem Wr.any {ms:List (Str × Yr)}:∀ {n:Nat} {x:Str} {u w:Th},Wr true ms n x u w->Wr false ms n x u w
 | 0,_,_,_,⟨s,es,v⟩=>⟨s,es,v.any fun _ _ _ z=>z⟩
 | _+1,_,_,_,⟨s,es,v⟩=>⟨s,es,v.any fun _ _ _ z=>z.any⟩
theorem Wr.tup {own:Bool} {ms:List (Str × Yr)} {n:Nat} {x:Str} {u w:Th} (h:Wr own ms n x u w):∃ ts,w=.tup ts:=by
 obtain ⟨s,_,v⟩:=h.out
 cases s with
 | whole _ _=>exact ⟨_,v.2⟩
 | truth=>exact v.elim fun b z=>⟨_,z.2⟩
 | text _=>exact ⟨_,v.2⟩
 | row b y k =>
  cases b with
  | true=>obtain ⟨l,l3,hl,e1,e2⟩:=v; exact ⟨_,e2⟩
  | false=>obtain ⟨l,l3,hl,e1,e2⟩:=v; exact ⟨_,e2⟩
 | rcd fs us=>obtain ⟨l,os,ps,ef,hl,ho,e1,p,sp,e2⟩:=v; exact ⟨_,e2⟩
 | cho fs us o =>
  rcases v with ⟨f,mf,u',w',hw,e1,e2⟩ | ⟨_,nb,it,_,_,_,_,_,e2⟩
  ·exact ⟨_,e2⟩
  ·exact ⟨_,e2⟩
theorem fd_go {T:TP} {H H':Hp} {l:Addr} {r:Nat} (f:Fd r H l) (g:Go T H H') (t:Tb T H):Fd r H' l:=by
 obtain ⟨a,ns,b,c,d,e,e2,z⟩:=f
 exact ⟨a,ns,b,c,d,g.lst t e,g.lst t e2,z⟩
theorem stp_tb {T:TP} {H H':Hp} {l:Addr} {r r':Nat} (t:Y5 l r H H') (f:Fd r' H l) (b:Tb T H):Tb T H':=by
 obtain ⟨a,ns,x,y,z,e,_⟩:=f
 have n:=Tb.ne (t:=b) e fun _ z=>nomatch z
 obtain ⟨ps,e2,k⟩:=b
 refine ⟨ps,t.keep _ _ n.symm e2,tab_keep k fun p o q=>t.keep _ _ (fun h=>?_) q⟩
 rw [h,e] at q
 cases q
theorem Tb.frz {T:TP} {H:Hp} (b:Tb T H) {S:Addr} {o:Obj} {kvs:List (Yt × V)} (h:H S=some (.dK kvs)):Tb T (Z3 H S (.frz o (.dK kvs))):=by
 have n:=Tb.ne (t:=b) h fun _ z=>nomatch z
 obtain ⟨ps,e,k⟩:=b
 refine ⟨ps,by rw [Zk n.symm]; exact e,tab_keep k fun a o q=>?_⟩
 have:a≠S:=fun z=>by rw [z,h] at q; cases q
 rw [Zk this]; exact q
theorem lkM_at {ms:List (Str × Yr)} (nd:(ms.map (·.1)).Nodup) {x:Str} {s:Yr} (h:(x,s)∈ms):lkM ms x=some s:=by
 induction ms with
 | nil=>cases h
 | cons p ms ih =>
  obtain ⟨y,t⟩:=p
  rw [List.map_cons,List.nodup_cons] at nd
  rcases List.mem_cons.mp h with h | h
  ·cases h; simp [lkM]
  ·have:¬ y=x:=fun z=>nd.1 (by rw [show ((y,t):Str × Yr).1=x from z]; exact List.mem_map_of_mem (f:=(·.1)) h)
   simp only [lkM,this,if_false]
   exact ih nd.2 h
theorem shp_nq {ms:List (Str × Yr)} {s:Yr} (h:ShOk ms s):nqT s.t:=by
 have iq:∀ us:List Int,nqT (.tup (us.map Th.int)):=fun us=>nqTs_all fun t m=>by
  obtain ⟨u,_,rfl⟩:=List.mem_map.mp m
  trivial
 cases s with
 | whole _ _=>exact ⟨trivial,trivial,trivial,trivial⟩
 | truth=>exact ⟨trivial,trivial⟩
 | text _=>exact ⟨trivial,trivial,trivial⟩
 | row _ _ _=>exact ⟨trivial,trivial,trivial,trivial⟩
 | rcd fs us =>
  have h:Vg ms fs:=h
  refine ⟨trivial,nqTs_all fun t m=>?_,iq us,trivial⟩
  obtain ⟨f,mf,rfl⟩:=List.mem_map.mp m
  exact ⟨trivial,trivial,trivial,(opt_gd h mf).nq,trivial⟩
 | cho fs us o =>
  refine ⟨trivial,nqTs_all fun t m=>?_,iq us,trivial,trivial⟩
  obtain ⟨f,mf,rfl⟩:=List.mem_map.mp m
  exact ⟨trivial,trivial,trivial,trivial⟩
theorem Dm.nq {K:W.Frag} {H H':Hp} (u:Up K H H'):∀ {kvs:List (Yt × V)} {ms:List (Str × Yr)},Dm K H kvs ms->(∀ p∈ms,nqT p.2.t)->Dm K H' kvs ms
 | _,_,.nil,_=>.nil
 | _,_,.cons r t,h=>.cons ⟨r.1,isTh_nq u _ _ (h _ List.mem_cons_self) r.2⟩ (Dm.nq u t fun p m=>h p (List.mem_cons_of_mem _ m))
structure Wd (K:W.Frag) (tp l e S:Addr) (ms:List (Str × Yr)) (kvs:List (Yt × V)) (o:Obj) (r:Nat) (H:Hp):Prop where
 fd:Fd r H l
 tb:Tb (TW tp) H
 md:MkAt K H e S ms
 fz:H S=some (.frz o (.dK kvs))
section
variable {K:W.Frag} {tp l e S:Addr} {ms:List (Str × Yr)} {kvs:List (Yt × V)} {o:Obj} {r r':Nat} {H H':Hp}
theorem Wd.same (w:Wd K tp l e S ms kvs o r H) (s:Zv H H'):Wd K tp l e S ms kvs o r H':=⟨w.fd.same s,w.tb.same s,w.md.up s.upT,s _ _ w.fz⟩
theorem Wd.step (w:Wd K tp l e S ms kvs o r H) (t:Y5 l r' H H'):Wd K tp l e S ms kvs o r' H':=⟨t.feed,stp_tb t w.fd w.tb,w.md.up (t.upT w.fd),(t.upT (K:=K) w.fd).frz _ _ _ w.fz⟩
theorem Wd.go (w:Wd K tp l e S ms kvs o r H) (g:Go (TW tp) H H'):Wd K tp l e S ms kvs o r H':=⟨fd_go w.fd g w.tb,g.tb,w.md.up (g.upT w.tb),(g.upT (K:=K) w.tb).frz _ _ _ w.fz⟩
theorem Wd.mono (w:Wd K tp l e S ms kvs o r H) (h:r'<=r):Wd K tp l e S ms kvs o r' H:=⟨w.fd.mono h,w.tb,w.md,w.fz⟩
end
theorem seq_by {X Y:TS} {D:Ends} {σ:L2.St} {H:Hp} (N:L2.St->Hp->Prop) (hY:∀ σ' H',N σ' H'->Y D σ' H') (hX:∀ M:L2.St->Hp->Prop,(∀ σ' H',N σ' H'->M σ' H')->X { D with nx:=M } σ H):tSeq X Y D σ H:=hX (Y D) hY
section
variable {P:Program} {w:World} {K:W.Frag} {mg:Str->Option Value} {base:Heap} {f:Addr} {fd:FuncData}
theorem ok_law {tp:Addr} (F:Fun K "law" "law" s_law f fd) (m:Bn mg) (g_law_feed:Fn P w K mg base 1 "_law_feed" ["_law_script"] (spFeed K)) (g_law_make:Fn P w K mg base 4 "_law_make" ["_law_feed_here"] (spMake K)) (g_law_item:Fn P w K mg base 4 "_law_item" ["_law_feed_here","_law_deep"] (spIt K 2))
  (g_law_value:Fn P w K mg base 10 "_law_value" ["_law_feed_here","_law_make_here","_law_name","_law_deep"] (spVal K 3)) (g_law_wild:Fn P w K mg base 8 "_law_wild" ["_law_feed_here","_law_make_here","_law_name","_law_value_here"] (spWild K 3))
  (g_law_item_of:Fn P w K mg base 5 "_law_item_of" ["_law_make_here","_law_name","_law_value_here"] (Vo K fun ms=>Wr false ms 3)) (g_written:Fn P w K mg base 9 "written" ["make","name","value"] (spWr K (TW tp) fun ms=>Wr false ms 3)):Y4 P w K mg base CX0 11 f fd ["_law_script"] (spLaw K tp):=by
 refine F.ok sc_law (fun vs H Q E h=>?_) (fun cdv A outer s H vs Q E hr h=>?_)
 ·obtain ⟨a,ns,rfl,_⟩:=h
  rfl
 obtain ⟨a,ns,rfl,hA,h63,tb,q⟩:=h
 refine ⟨_,(@Zj _ _ _ _ _ (@Zo _ 1 _ _ _ _ _ sc_law.nd rfl (by trivial) (@Zy _ _ _ _ _ _ _ _ _ _ g_law_feed hr.m rfl (Zg (pv 0) Zx rfl) (by decide) rfl rfl) rfl (by trivial)) (@Zj _ _ _ _ _ (@ps_for _ _ _ _ _ _ _ _ PassesOwn.never rfl (@pi_range1 _ _ _ _ _ _ rfl m.range (Zg Zq Zx rfl) (by trivial)) (@Zn _ 2 _ _ sc_law.nd rfl (by trivial) (by trivial)) (@Zj _ _ _ _ _ (@Zo _ 3 _ _ _ _ _ sc_law.nd rfl (by trivial) (@Zy _ _ _ _ _ _ _ _ _ _ g_law_make hr.m rfl (Zg (pv 1) Zx rfl) (by decide) rfl rfl) rfl (by trivial)) (@Zb _ _ _ (@ps_for _ _ _ _ _ _ _ _ PassesOwn.never rfl (@pi_dict _ _ _ _ (@Zm _ _ _ _ _ _ _ Zt (pv 3) Zq (fun _ _=>rfl))) (@Zn _ 4 _ _ sc_law.nd rfl (by trivial) (by trivial)) (@Zj _ _ _ _ _ (@Yz _ _ _ _ _ _ _ _ (@Zl _ _ _ _ _ _ _ _ op_eqD (@pe_slice _ _ _ _ _ _ _ _ _ _ sl_tupG (@pe_dget _ _ _ _ _ _ (hu_of hr) (@Zm _ _ _ _ _ _ _ Zt (pv 3) Zq (fun _ _=>rfl)) (pv 4) (fun _ _=>rfl)) (@po_some _ _ _ Zq) (@po_none _)) (@Zu _ _ _ _ _ (Zg pe_bl Zx rfl)) (Zh _)) (@Zj _ _ _ _ _ (@Zo _ 5 _ _ _ _ _ sc_law.nd rfl (by trivial) (@Zy _ _ _ _ _ _ _ _ _ _ g_law_item hr.m rfl (Zg (pv 1) (Zg Zq Zx rfl) rfl) (by decide) rfl rfl) rfl (by trivial)) (@Zb _ _ _ (@Yz _ _ _ _ _ _ _ _ (@Zl _ _ _ _ _ _ _ _ op_ne (@Yy _ _ _ _ _ _ _ _ _ (call_reprD hr) rfl m.repr b_repr (Zg (@Zy _ _ _ _ _ _ _ _ _ _ g_written hr.m rfl (Zg (pv 3) (Zg (pv 4) (Zg (@Zu _ _ _ _ _ (Zg Zc (Zg Zq (Zg (pv 5) Zx rfl) rfl) rfl)) Zx rfl) rfl) rfl) (by decide) rfl rfl) Zx rfl) (by decide) (by decide) rfl rfl) (@Yy _ _ _ _ _ _ _ _ _ (call_reprD hr) rfl m.repr b_repr (Zg (@Zu _ _ _ _ _ (Zg Zc (Zg Zq (Zg (pv 5) Zx rfl) rfl) rfl)) Zx rfl) (by decide) (by decide) rfl rfl) (Zh _)) (@Zb _ _ _ (@Zp _ _ _ _ pe_bl)) Za))) Za) (@Zb _ _ _ (@ps_for _ _ _ _ _ _ _ _ PassesOwn.never rfl (@Vj _ _ _ _ (@Zy _ _ _ _ _ _ _ _ _ _ g_law_value hr.m rfl (Zg (pv 1) (Zg (pv 3) (Zg (pv 4) (Zg Zq Zx rfl) rfl) rfl) rfl) (by decide) rfl rfl)) (@Zn _ 6 _ _ sc_law.nd rfl (by trivial) (by trivial)) (@Zj _ _ _ _ _ (@Zo _ 7 _ _ _ _ _ sc_law.nd rfl (by trivial) (@Zy _ _ _ _ _ _ _ _ _ _ g_law_wild hr.m rfl (Zg (pv 1) (Zg (pv 3) (Zg (pv 4) (Zg (pv 6) Zx rfl) rfl) rfl) rfl) (by decide) rfl rfl) rfl (by trivial)) (@Zb _ _ _ (@ps_for _ _ _ _ _ _ _ _ PassesOwn.never rfl (@Vj _ _ _ _ (@Z7 _ _ _ _ (Zg (pv 6) (Zg (pv 7) (Zg (pv 6) Zx rfl) rfl) rfl))) (@Zn _ 8 _ _ sc_law.nd rfl (by trivial) (by trivial)) (@Zb _ _ _ (@Yz _ _ _ _ _ _ _ _ (@Zl _ _ _ _ _ _ _ _ op_ne (@Yy _ _ _ _ _ _ _ _ _ (call_reprD hr) rfl m.repr b_repr (Zg (@Zy _ _ _ _ _ _ _ _ _ _ g_written hr.m rfl (Zg (pv 3) (Zg (pv 4) (Zg (pv 8) Zx rfl) rfl) rfl) (by decide) rfl rfl) Zx rfl) (by decide) (by decide) rfl rfl) (@Yy _ _ _ _ _ _ _ _ _ (call_reprD hr) rfl m.repr b_repr (Zg (@Zy _ _ _ _ _ _ _ _ _ _ g_law_item_of hr.m rfl (Zg (pv 3) (Zg (pv 4) (Zg (pv 8) Zx rfl) rfl) rfl) (by decide) rfl rfl) Zx rfl) (by decide) (by decide) rfl rfl) (Zh _)) (@Zb _ _ _ (@Zp _ _ _ _ pe_bl)) Za)) (by trivial)))) (by trivial)))) (by trivial)))) (by trivial)) (@Zb _ _ _ (@Zp _ _ _ _ pe_bl)))), ?_⟩
 have uN:A.units+3+16 * 10+200<cLine:=hr.un
 refine ⟨_,rfl,a,ns,rfl,hA,h63,fun l H1 s1 nl f1=>?_⟩
 refine ⟨_,rfl,by decide,by decide, ?_⟩
 refine for_range (fun j σ H5=>(∃ o2 o3 o4 o5 o6 o7 o8,σ=[some (.ref a),some (.ref l),o2,o3,o4,o5,o6,o7,o8])/\Fd (1000+700000 * (2 - j)) H5 l/\Tb (TW tp) H5) ⟨⟨_,_,_,_,_,_,_,rfl⟩,f1.mono (by decide),tb.same s1⟩ ?_ ?_
 ·rintro j σ H5 hj ⟨⟨o2,o3,o4,o5,o6,o7,o8,rfl⟩,f5,tb5⟩
  have hj:j<2:=hj
  generalize hR:1000+700000 * (2 - (j+1))=R
  refine ⟨_,rfl,l,R+600000,rfl,f5.mono (by omega),fun e S v ms H2 he hS nS mo t2=>?_⟩
  obtain ⟨kvs,hS,dm⟩:=hS
  have tb2:=stp_tb t2 f5 tb5
  refine ⟨_,rfl,e,_,_,_,rfl,rfl,he,Va,S,kvs,rfl,hS,fun o=>?_⟩
  have nqs:∀ p∈ms,nqT p.2.t:=fun p mp=>shp_nq (mo.ok p.1 p.2 (lkM_at mo.nd mp))
  have W3:Wd K tp l e S ms kvs o (R+600000) (Z3 H2 S (.frz o (.dK kvs))):=⟨t2.feed.set hS (fun _ z=>nomatch z),tb2.frz hS,⟨⟨v,up_frz hS _ _ he⟩,kvs,.inr ⟨o,Zz⟩,dm.nq (up_frz hS) nqs⟩,Zz⟩
  have lk:kvs.length<=6:=by rw [Paired.length dm]; exact mo.len
  refine for_dict (fun i σ H5=>(∃ o2 o4 o5 o6 o7 o8,σ=[some (.ref a),some (.ref l),o2,some (.ref e),o4,o5,o6,o7,o8])/\Wd K tp l e S ms kvs o (R+100000 * (6 - i)) H5) ⟨⟨_,_,_,_,_,_,rfl⟩,W3⟩ ?_ ?_ ?_
  ·rintro i σ H5 hi ⟨_,W5⟩
   exact W5.fz
  ·rintro i kk xx σ H5 ek ⟨⟨o2,o4,o5,o6,o7,o8,rfl⟩,W5⟩
   have hi:i<kvs.length:=(List.getElem?_eq_some_iff.mp ek).1
   generalize hR1:R+100000 * (6 - (i+1))=R1
   have eR:R+100000 * (6 - i)=R1+100000:=by omega
   rw [eR] at W5
   obtain ⟨nm,sh,rfl,em⟩:∃ nm sh,kk=.inr nm/\(nm,sh)∈ms:=by
    have h1:=dm.keys
    have h2:=congrArg (fun z=>z[i]?) h1
    simp only [List.getElem?_map,ek] at h2
    cases z:ms[i]? with
    | none=>rw [z] at h2; cases h2
    | some p=>rw [z] at h2; exact ⟨p.1,p.2,Option.some.inj h2,List.mem_of_getElem? z⟩
   have es:=lkM_at mo.nd em
   obtain ⟨v5,he5⟩:=W5.md.e
   obtain ⟨kv5,sv,hS5,ev5,is5⟩:=W5.md.get es
   obtain ⟨a',ws,rfl,ha',hcut⟩:∃ a' ws,sv=.ref a'/\Z6 K H5 a' ws/\((cutV ws (some 3) none=[])\/∃ fs us o,sh=.cho fs us o/\cutV ws (some 3) none=[.bl o]):=by
    cases sh with
    | whole _ _ =>
     obtain ⟨a',ws,rfl,ha',at'⟩:=is5
     obtain ⟨w1,w2,w3,rfl,_⟩:=are3 at'
     exact ⟨_,_,rfl,ha',.inl rfl⟩
    | truth =>
     obtain ⟨a',ws,rfl,ha',at'⟩:=is5
     obtain ⟨w1,rfl,_⟩:=are1 at'
     exact ⟨_,_,rfl,ha',.inl rfl⟩
    | text _ =>
     obtain ⟨a',ws,rfl,ha',at'⟩:=is5
     obtain ⟨w1,w2,rfl,_⟩:=are2 at'
     exact ⟨_,_,rfl,ha',.inl rfl⟩
    | row _ _ _ =>
     obtain ⟨a',ws,rfl,ha',at'⟩:=is5
     obtain ⟨w1,w2,w3,rfl,_⟩:=are3 at'
     exact ⟨_,_,rfl,ha',.inl rfl⟩
    | rcd _ _ =>
     obtain ⟨a',ws,rfl,ha',at'⟩:=is5
     obtain ⟨w1,w2,w3,rfl,_⟩:=are3 at'
     exact ⟨_,_,rfl,ha',.inl rfl⟩
    | cho fs us o =>
     obtain ⟨a',ws,rfl,ha',at'⟩:=is5
     obtain ⟨w1,w2,w3,w4,rfl,_,_,_,i4⟩:=are4 at'
     cases (show w4=.bl o from i4)
     exact ⟨_,_,rfl,ha',.inr ⟨fs,us,o,rfl,rfl⟩⟩
   have vb3:VB 3=2590:=rfl
   have wb3:WB 3=46800:=rfl
   show tSeq _ _ _ _ _
   refine seq_by (fun σ' HX=>(∃ o2 o5 o6 o7 o8,σ'=[some (.ref a),some (.ref l),o2,some (.ref e),some (.str nm),o5,o6,o7,o8])/\Wd K tp l e S ms kvs o (R1+90000) HX) ?_ fun M hM=>?_
   ·rintro σ' HX ⟨⟨o2,o5,o6,o7,o8,rfl⟩,WX⟩
    refine ⟨_,rfl,_,rfl,_,rfl,l,e,S,ms,nm,R1+WB 3,rfl,WX.md,mo,(by rw [es]; rfl),WX.fd.mono (by omega),fun L H8 rX nL t8=>?_⟩
    have W8:=WX.step t8
    rcases rX with hL | ⟨v,u,w,hL,iu,hw⟩
    ·refine ⟨L,rfl,⟨_,Z0.of hL⟩, ?_⟩
     refine for_list (K:=K) (xs:=[]) (fun j σ H9=>(∃ o2 o4 o5 o6 o7 o8,σ=[some (.ref a),some (.ref l),o2,some (.ref e),o4,o5,o6,o7,o8])/\Wd K tp l e S ms kvs o R1 H9/\H9 L=some (.lst [])) ⟨⟨_,_,_,_,_,_,rfl⟩,W8.mono (by omega),hL⟩ ?_ ?_ ?_
     ·rintro j σ H9 _ ⟨_,_,h9⟩
      exact Z0.of h9
     ·rintro j xv σ H9 hx _
      simp at hx
     ·rintro σ H9 ⟨z,W9,_⟩
      exact ⟨z,W9⟩
    ·refine ⟨L,rfl,⟨_,Z0.of hL⟩, ?_⟩
     refine for_list (K:=K) (xs:=[v]) (fun j σ H9=>(∃ o2 o5 o6 o7 o8,σ=[some (.ref a),some (.ref l),o2,some (.ref e),some (.str nm),o5,o6,o7,o8])/\Wd K tp l e S ms kvs o (R1+(1 - j) * WB 3) H9/\H9 L=some (.lst [v])/\Zd K H9 u v) ⟨⟨_,_,_,_,_,rfl⟩,W8.mono (by omega),hL,iu⟩ ?_ ?_ ?_
     ·rintro j σ H9 _ ⟨_,_,h9,_⟩
      exact Z0.of h9
     ·rintro j xv σ H9 hx ⟨⟨o2,o5,o6,o7,o8,rfl⟩,W9,h9,iu9⟩
      have j0:j=0:=by
       have:=(List.getElem?_eq_some_iff.mp hx).1
       simp at this
       exact this
      subst j0
      cases (show some v=some xv from hx)
      have e1:(1 - 0) * WB 3=WB 3:=Nat.one_mul _
      rw [e1] at W9
      refine ⟨_,rfl,_,rfl,_,rfl,_,rfl,l,e,S,ms,nm,u,w,v,R1,rfl,W9.md,mo,hw,iu9,W9.fd,fun vw uw ww H10 iw hww t10=>?_⟩
      have W10:=W9.step t10
      have hLl:L≠l:=fun z=>by
       obtain ⟨x1,x2,x3,x4,x5,x6,_⟩:=W9.fd
       rw [z,x6] at h9; cases h9
      have h10:=t10.keep _ _ hLl h9
      have iu10:=Zd.up (t10.upT W9.fd) _ _ iu9
      refine ⟨_,rfl,_,rfl,_,rfl,(sz 3),fun L3 hL3=>⟨L3,rfl,⟨_,Z0.of Zz⟩, ?_⟩⟩
      have s11:=Zv.lay (o:=.lst [v,vw,v]) hL3
      refine for_list (K:=K) (xs:=[v,vw,v]) (fun j σ H11=>(∃ o2 o5 o6 o7 o8,σ=[some (.ref a),some (.ref l),o2,some (.ref e),some (.str nm),o5,o6,o7,o8])/\Wd K tp l e S ms kvs o R1 H11/\H11 L=some (.lst [v])/\H11 L3=some (.lst [v,vw,v])/\Zd K H11 u v/\Zd K H11 uw vw) ⟨⟨_,_,_,_,_,rfl⟩,W10.same s11,s11 _ _ h10,Zz,Zd.up s11.upT _ _ iu10,Zd.up s11.upT _ _ iw⟩ ?_ ?_ ?_
      ·rintro j σ H11 _ ⟨_,_,_,h,_⟩
       exact Z0.of h
      ·rintro j xv σ H11 hx ⟨⟨o2,o5,o6,o7,o8,rfl⟩,W11,h11,h11',iu11,iw11⟩
       obtain ⟨ux,wx,ix,hwx⟩:∃ ux wx,Zd K H11 ux xv/\Wr false ms 3 nm ux wx:=by
        have mx:=List.mem_of_getElem? hx
        simp only [List.mem_cons,List.not_mem_nil,or_false] at mx
        rcases mx with rfl | rfl | rfl
        ·exact ⟨u,w,iu11,hw.any⟩
        ·exact ⟨uw,ww,iw11,hww⟩
        ·exact ⟨u,w,iu11,hw.any⟩
       obtain ⟨ts,rfl⟩:=hwx.tup
       have gw:=(Wr.gd mo hwx).2
       have sw:=gw.shown (by decide) (by decide)
       refine ⟨_,rfl,_,rfl,_,rfl,e,S,ms,nm,ux,.tup ts,xv,rfl,W11.md,mo,hwx,ix,W11.tb,fun v' H12 iv g12=>?_⟩
       have W12:=W11.go g12
       have u12:Vc K H11 H12:=g12.upT W11.tb
       refine ⟨_,Vv ts,rfl,Vn _ _ gw.nq iv,sw.1,sw.2.1,sw.2.2, ?_⟩
       refine ⟨_,rfl,_,rfl,_,rfl,e,S,ms,nm,ux,.tup ts,xv,rfl,W12.md,mo,hwx,Zd.up u12 _ _ ix,fun v2 H13 iv2 s13=>?_⟩
       refine ⟨_,Vv ts,rfl,Vn _ _ gw.nq iv2,sw.1,sw.2.1,sw.2.2,rfl,_,rfl,Z5 (by simp) ?_⟩
       exact ⟨⟨_,_,_,_,_,rfl⟩,W12.same s13,s13 _ _ (g12.lst W11.tb h11),s13 _ _ (g12.lst W11.tb h11'),Zd.up (u12.trans s13.upT) _ _ iu11,Zd.up (u12.trans s13.upT) _ _ iw11⟩
      ·rintro σ H11 ⟨⟨o2,o5,o6,o7,o8,rfl⟩,W11,h11,_,iu11,_⟩
       exact ⟨⟨_,_,_,_,_,rfl⟩,W11.mono (by omega),h11,iu11⟩
     ·rintro σ H9 ⟨⟨o2,o5,o6,o7,o8,rfl⟩,W9,_⟩
      exact ⟨⟨_,_,_,_,_,_,rfl⟩,W9.mono (by omega)⟩
   refine ⟨_,rfl,e,_,_,_,rfl,rfl,he5,Va,_,rfl,S,_,rfl,(show DGet H5 S (kV (.inr nm)) (some (.ref a')) from ev5 ▸ rd_get hS5 (.inr nm)),_,rfl,a',ws,rfl,ha',fun p6 H6 s6 h6=>?_⟩
   refine ⟨(sz 1),fun e7 h7=>?_⟩
   have s7:=Zv.lay (o:=.tup [.bl true]) h7
   have W7:=W5.same (s6.trans s7)
   have hp6:=s7.up _ _ h6
   have d7:Vu K (Z3 H6 e7 (.tup [.bl true])) (.tup [.bl true]) (.ref e7):=⟨e7,_,rfl,Z6.of Zz,_,_,rfl,rfl,rfl⟩
   rcases hcut with hcut | ⟨fs,us,oo,rfl,hcut⟩
   ·rw [hcut] at hp6
    refine ⟨.tup [],_,⟨p6,[],rfl,hp6,rfl⟩,d7,(by show A.units+3+1<cLine; omega),_,rfl,Z5 rfl ?_⟩
    exact hM _ _ ⟨⟨_,_,_,_,_,rfl⟩,W7.mono (by omega)⟩
   ·rw [hcut] at hp6
    cases oo with
    | false =>
     refine ⟨.tup [.bl false],_,⟨p6,_,rfl,hp6,_,_,rfl,rfl,rfl⟩,d7,(by show A.units+3+1<cLine; omega),_,rfl,Z5 rfl ?_⟩
     exact hM _ _ ⟨⟨_,_,_,_,_,rfl⟩,W7.mono (by omega)⟩
    | true =>
     refine ⟨.tup [.bl true],_,⟨p6,_,rfl,hp6,_,_,rfl,rfl,rfl⟩,d7,(by show A.units+3+1<cLine; omega),_,rfl,Yh rfl ?_⟩
     refine ⟨_,rfl,l,R1+90000,rfl,W7.fd.mono (by rw [show IB 2=30 from rfl]; omega),fun vi ui H8 ii gi t8=>?_⟩
     have W8:=W7.step t8
     have gi:Gd 4000 8 ui:=gi.mono (by decide) (by decide)
     refine ⟨_,rfl,_,rfl,_,rfl,(sz 3),fun e9 h9=>?_⟩
     have s9:=Zv.lay (o:=.tup [.str "other",.int 777,vi]) h9
     have W9:=W8.same s9
     have hwo:Wr false ms 3 nm (.tup [.str "other",.int 777,ui]) (.tup [.str "arm",.int 777,ui]):=Wr.of es (.inr ⟨rfl,777,ui,fun z=>absurd ((mo.ok nm _ es).1.nums.subset z) (by decide),by decide,by decide,gi,rfl,rfl⟩)
     have gw:=(Wr.gd mo hwo).2
     have sw:=gw.shown (by decide) (by decide)
     refine ⟨e,S,ms,nm,_,_,.ref e9,rfl,W9.md,mo,hwo,⟨e9,_,rfl,Z6.of Zz,_,_,rfl,rfl,_,_,rfl,rfl,_,_,rfl,Zd.up s9.upT _ _ ii,rfl⟩,W9.tb,fun v' H10 iv g10=>?_⟩
     have W10:=W9.go g10
     have u10:Vc K H8 H10:=s9.upT.trans (g10.upT W9.tb)
     refine ⟨_,Vv [.str "arm",.int 777,ui],rfl,Vn _ _ gw.nq iv,sw.1,sw.2.1,sw.2.2, ?_⟩
     refine ⟨_,rfl,(sz 3),fun e11 h11=>?_⟩
     have s11:=Zv.lay (o:=.tup [.str "arm",.int 777,vi]) h11
     have WX:=W10.same s11
     have i11:Zd K (Z3 H10 e11 (.tup [.str "arm",.int 777,vi])) (.tup [.str "arm",.int 777,ui]) (.ref e11):=⟨e11,_,rfl,Z6.of Zz,_,_,rfl,rfl,_,_,rfl,rfl,_,_,rfl,Zd.up (u10.trans s11.upT) _ _ ii,rfl⟩
     refine ⟨_,Vv [.str "arm",.int 777,ui],rfl,Vn _ _ gw.nq i11,sw.1,sw.2.1,sw.2.2,rfl,_,rfl,Z5 (by simp) ?_⟩
     exact hM _ _ ⟨⟨_,_,_,_,_,rfl⟩,WX⟩
  ·rintro σ H5 ⟨⟨o2,o4,o5,o6,o7,o8,rfl⟩,W5⟩
   exact ⟨⟨_,_,_,_,_,_,_,rfl⟩,W5.fd.mono (by omega),W5.tb⟩
 ·rintro σ H5 _
  exact q H5
end
def Only2 (H:Hp) (tp:Addr) (ps:Array Value):Prop:=∀ b,H b=none\/(∃ o xs,H b=some (.frz o (.lst xs)))\/(b=tp/\H b=some (.tbl ps))
theorem call_law {P:Program} {w:World} {K:W.Frag} {mg mb:Str->Option Value} {k:Nat} {fa a tp:Addr} {fd:FuncData} {x:Str} {sp:Sp} {s₁:Shared} {vs:List Value} {ns:List Int} {ps:Array Value}
  (KX:K.In s₁.heap) (hns:s₁.heap.Ns mainGlobals mg) (hb:s₁.heap.Ns builtinsNs mb) (hbb:∀ x:Str,x ≠ "__name__" -> mb x=bootBuiltins x) (hlim:s₁.heap.NoLimit) (hg:s₁.gens=#[])
  (ha:s₁.heap.get? a=some { cls:=.type "list",data:=.seq vs.toArray }) (hi:IntsAre vs ns) (hl:ns.length<=sizeLine) (hr:Vr k callerA)
  (hT:s₁.heap.get? tp=some { cls:=.none,data:=.fields ps }) (hKT:K.lookup tp=none) (hCT:isCodeTable s₁.heap tp)
  (F:∀ base:Heap,K.In base->base.Ns mainGlobals mg->Y4 P w K mg base CX0 k fa fd [x] sp) (hbind:∀ (s:Shared) (u:Value),BindsTo s fd ⟨[u],[]⟩ [(x,u)])
  (hsp:∀ H:Hp,H tp=some (.tbl ps)->Z0 K H a (ns.map V.int)->sp [.ref a] H (fun v _=>v=.bl true) fun _ _ _=>False) :
  codeAny (model P w) callerA (.call (.ref fa) ⟨[.ref a],[]⟩) (fun r s'=>r=.ok (.ret (.bool true))/\OldK s₁.heap s'.heap/\s'.os=s₁.os/\AllBare s'.gens) s₁:=by
 have rv:=vals_ints hi
 have lenV:=hi.length
 have nat':tp≠a:=fun z=>by
  rw [z,ha] at hT
  cases hT
 have core:∀ H:Hp,Only2 H tp ps->H tp=some (.tbl ps)->Z0 K H a (ns.map V.int)->HOk P w H s₁.heap->(∀ b,H b≠none->b=a\/b=tp)->(H a≠none->K.lookup a=none) ->
   codeAny (model P w) callerA (.call (.ref fa) ⟨[.ref a],[]⟩) (fun r s'=>r=.ok (.ret (.bool true))/\OldK s₁.heap s'.heap/\s'.os=s₁.os/\AllBare s'.gens) s₁:=by
  intro H hO hP hS hok hA hK
  have off:∀ {b:Addr} {o:Obj} {es:Array DictEntry} {ep:Nat},s₁.heap.get? b=some o->o.data=.dict es ep->H b=none:=fun {b o es ep} e d=>by
   cases q:H b with
   | none=>rfl
   | some u =>
    rcases hA b (by rw [q]; simp) with z | z
    ·rw [z,ha] at e; cases e; cases d
    ·rw [z,hT] at e; cases e; cases d
  have nsK:∀ {b:Addr} {m:Str->Option Value},s₁.heap.Ns b m->(hidT s₁.heap H).Ns b m:=fun {b m} ⟨o,es,ep,e,d,r⟩=>⟨o,es,ep,hidT_get e (off e d),d,r⟩
  have hKb:K.In (hidT s₁.heap H):=fun b o e=>hidT_get (KX b o e) (by
   cases q:H b with
   | none=>rfl
   | some u =>
    rcases hA b (by rw [q]; simp) with z | z
    ·subst z; rw [hK (by rw [q]; simp)] at e; cases e
    ·rw [z,hKT] at e; cases e)
  have hM:Mod K mg (hidT s₁.heap H):=⟨hKb,nsK hns,⟨mb,nsK hb,hbb⟩,let ⟨mc,h1,h2⟩:=hlim; ⟨mc,nsK h1,h2⟩⟩
  have e0:Env0 P w K mg (hidT s₁.heap H) callerA [] s₁ H:=⟨rfl,hM,fun b o e=>of_hidT e,Nat.le_of_eq (hidT_size _ _),trivial,fun b hb=>absurd (show b∈([]:List Addr) from hb) (by simp),hok,.of_eq hg⟩
  refine codeAny_mono ((F _ hKb (nsK hns)).run callerA [] s₁ H ⟨[.ref a],[]⟩ [.ref a] [.ref a] _ _ hr e0 (hbind s₁ (.ref a)) (.cons rfl .nil) (hsp H hP hS)) fun r s' h=>?_
  cases r with
  | error e=>exact False.elim h
  | ok fl =>
   cases fl with
   | next=>exact False.elim h
   | brk=>exact False.elim h
   | cont=>exact False.elim h
   | ret u =>
    obtain ⟨v,H',os,bare,un,hok',r',q⟩:=h
    have q':v=.bl true:=q
    subst q'
    obtain rfl:u=Value.bool true:=r'
    have keep:∀ b o,b≠tp->s₁.heap.get? b=some o->s'.heap.get? b=some o:=fun b o nb e=>by
     cases q:H b with
     | none=>exact un.keep b o e q (by intro z; exact absurd (show b∈([]:List Addr) from z) (by simp)) (by simp)
     | some u =>
      rcases hO b with z | ⟨ob,xs,z⟩ | ⟨z,_⟩
      ·rw [q] at z; cases z
      ·have z2:=un.frzs b ob _ z
       obtain ⟨e1,_⟩:=hok b _ z
       obtain ⟨e2,_⟩:=hok' b _ z2
       rw [e] at e1; cases e1
       exact e2
      ·exact absurd z nb
    obtain ⟨more,eM⟩:=un.tbls tp ps hP
    have gM:s'.heap.get? tp=some { cls:=.none,data:=.fields (ps++more) }:=hok' tp _ eM
    refine ⟨rfl,⟨fun b o e=>?_,fun b o e=>?_⟩,os,bare⟩
    ·by_cases z:b=tp
     ·subst z
      rw [hT] at e; cases e
      exact .inr (.inl ⟨hCT,rfl,ps,more,rfl,gM⟩)
     ·exact .inl (keep b o z e)
    ·by_cases z:b=tp
     ·exact ⟨_,by rw [z]; exact gM⟩
     ·exact ⟨o,keep b o z e⟩
 cases hk:K.lookup a with
 | some o =>
  have e:=KX a o hk
  rw [ha] at e
  cases e
  refine core (fun b=>if b=tp then some (.tbl ps) else none) (fun b=>?_) (if_pos rfl) (.inr ⟨_,vs.toArray,_,hk,rfl,rfl,rfl,by rw [List.size_toArray,lenV]; exact hl,by simpa using rv⟩) (fun b u z=>?_) (fun b z=>?_) fun z=>absurd (if_neg nat'.symm) z
  ·by_cases z:b=tp
   ·exact .inr (.inr ⟨z,if_pos z⟩)
   ·exact .inl (if_neg z)
  ·by_cases q:b=tp
   ·have z':=(if_pos q).symm.trans z
    cases z'
    subst q
    exact hT
   ·have z':=(if_neg q).symm.trans z
    cases z'
  ·by_cases q:b=tp
   ·exact .inr q
   ·exact absurd (if_neg q) z
 | none =>
  have hAt:∀ b,(if b=tp then some (HO.tbl ps) else if b=a then some (.frz { cls:=.type "list",data:=.seq vs.toArray } (.lst (ns.map V.int))) else none:Option HO)=(if b=tp then some (HO.tbl ps) else if b=a then some (.frz { cls:=.type "list",data:=.seq vs.toArray } (.lst (ns.map V.int))) else none):=fun _=>rfl
  refine core (fun b=>if b=tp then some (.tbl ps) else if b=a then some (.frz { cls:=.type "list",data:=.seq vs.toArray } (.lst (ns.map V.int))) else none) (fun b=>?_) (if_pos rfl) (.inl (.inr ⟨{ cls:=.type "list",data:=.seq vs.toArray },(if_neg nat'.symm).trans (if_pos rfl)⟩)) (fun b u z=>?_) (fun b z=>?_) fun _=>hk
  ·by_cases z:b=tp
   ·exact .inr (.inr ⟨z,if_pos z⟩)
   ·by_cases hb:b=a
    ·exact .inr (.inl ⟨_,_,(if_neg z).trans (if_pos hb)⟩)
    ·exact .inl ((if_neg z).trans (if_neg hb))
  ·by_cases q:b=tp
   ·have z':=(if_pos q).symm.trans z
    cases z'
    subst q
    exact hT
   ·by_cases hb:b=a
    ·have z':=((if_neg q).trans (if_pos hb)).symm.trans z
     cases z'
     subst hb
     exact ⟨ha,by rw [List.length_map]; exact hl,vs,_,rv,ha⟩
    ·have z':=((if_neg q).trans (if_neg hb)).symm.trans z
     cases z'
  ·by_cases q:b=tp
   ·exact .inr q
   ·by_cases hb:b=a
    ·exact .inl hb
    ·exact absurd ((if_neg q).trans (if_neg hb)) z
theorem in_split {K:W.Frag} {tp:Addr} {o:Obj} {h:Heap} (no:K.lookup tp=none) (X:W.Frag.In ((tp,o)::K) h):K.In h/\h.get? tp=some o:=by
 refine ⟨fun a b e=>X a b ?_,X tp o (by simp [List.lookup])⟩
 have n:(a == tp)=false:=by
  rw [beq_eq_false_iff_ne]
  intro z
  rw [z,no] at e
  cases e
 rw [List.lookup_cons,n]
 exact e
def codeHdB (K:W.Frag) (c p:Addr):Bool:=match K.lookup c with
 | some ⟨.type t,_,.fields vs,_⟩=>t == "code" && !(c == p) && (match (vs[11]?:Option Value),vs.getD 11 .none,vs.getD 18 .none,vs.getD 7 .none,vs.getD 9 .none,vs.getD 10 .none with
  | some (Value.ref q),Value.ref q',.str _ _,.int _ _,.bool _,.int _ _=>q == p && q' == p
  | _,_,_,_,_,_=>false)
 | _=>false
theorem codeHd_of {K:W.Frag} {c p:Addr} (e:codeHdB K c p=true) {h:Heap} (X:K.In h):W.CodeHd h c p:=by
 unfold codeHdB at e
 split at e
 ·rename_i t d vs sl lk
  simp only [Bool.and_eq_true,Bool.not_eq_true',beq_eq_false_iff_ne,ne_eq] at e
  obtain ⟨⟨e1,e2⟩,e3⟩:=e
  split at e3
  ·rename_i q q' f1 t1 f2 t2 b f3 t3 h1 h2 h3 h4 h5 h6
   simp only [Bool.and_eq_true,beq_iff_eq] at e3
   obtain ⟨rfl,rfl⟩:=e3
   exact ⟨_,vs,_,_,_,_,_,_,_,X c _ lk,by rw [eq_of_beq e1],rfl,h1,h2,h3,h4,h5,h6,e2⟩
  ·cases e3
 ·cases e
theorem codeTab_of {K:W.Frag} {c p:Addr} (e:codeHdB K c p=true) {h:Heap} (X:K.In h):isCodeTable h p:=by
 obtain ⟨o,vs,_,_,_,_,_,_,_,h1,h2,h3,h4,_⟩:=codeHd_of e X
 exact ⟨c,o,vs,h1,h2,h3,h4⟩
def bltB (K:W.Frag) (bm p:Addr):Bool:=match K.lookup bm with
 | some ⟨.type t,some d,.plain,_⟩=>t == "module" && d == builtinsNs && !(bm == builtinsNs) && !(bm == mainGlobals) && !(bm == p)
 | _=>false
theorem blt_of {K:W.Frag} {mg:Str->Option Value} {bm p:Addr} (e:bltB K bm p=true) (hm:mg "__builtins__" = some (.ref bm)) {h:Heap} (X:K.In h):h.BuiltinsAt mg p:=by
 unfold bltB at e
 split at e
 ·rename_i t d sl lk
  simp only [Bool.and_eq_true,Bool.not_eq_true',beq_eq_false_iff_ne,ne_eq,beq_iff_eq] at e
  obtain ⟨⟨⟨⟨e1,e2⟩,e3⟩,e4⟩,e5⟩:=e
  exact ⟨bm,_,hm,e3,e4,e5,X bm _ lk,by rw [e1],by rw [e2],rfl⟩
 ·cases e
section
variable {P:Program} {w:World} {K:W.Frag} {mg:Str->Option Value} {base:Heap}
theorem fun_mkC {x qual:Str} {st:Stmt} {f c:Addr} {oc:Value} {od an:Option Addr} {osl:Array (Option Value)} {kV doc pm ct:Value} (l:K.lookup f=some ⟨oc,od,.func (W.fnOf x qual (defArgs st) (V2 st) (Zf st) .none kV doc pm an (.ref c) ct),osl⟩)
  (h:W.codeIn K (.ref c) qual=true) (k:W.keepIn K (.ref f)=true):FunC K x qual st f (W.fnOf x qual (defArgs st) (V2 st) (Zf st) .none kV doc pm an (.ref c) ct) c:=⟨⟨oc,od,kV,doc,pm,an,ct,osl,rfl,l,h⟩,k⟩
theorem ok_no {x qual:Str} {st:Stmt} {f:Addr} {fd:FuncData} {N ps:List Str} {k:Nat} {sp:Sp} (F:Fun K x qual st f fd) (S:Yk N ps (Zf st)) (h:∀ vs H Q E,¬ sp vs H Q E):Y4 P w K mg base CX0 (k+1) f fd ps sp :=
 F.ok S (fun _ _ _ _ z=>(h _ _ _ _ z).elim) (fun _ _ _ _ _ _ _ _ _ z=>(h _ _ _ _ z).elim)
end
theorem no_wr {K:W.Frag} {T:TP} (vs:List V) (H:Hp) (Q:VK) (E:XK):¬ spWr K T (fun ms=>Wr' false ms 0) vs H Q E:=fun ⟨_,_,_,_,_,_,_,_,_,_,z,_⟩=>z
theorem no_it {K:W.Frag} (vs:List V) (H:Hp) (Q:VK) (E:XK):¬ Vo K (fun ms=>Wr' false ms 0) vs H Q E:=fun ⟨_,_,_,_,_,_,_,_,_,_,z,_⟩=>z
theorem tb_start {tp:Addr} {H:Hp} (h:H tp=some (.tbl #[])):Tb (TW tp) H:=⟨#[],h,trivial,.inl rfl⟩
theorem walk {l:W.OpenLaw} {q:Program} {loose:List Str} {XP:(Str->Option Value)->Heap->Prop} {YP:World->Heap->Prop} {d:DefRec} {K:Params->W.Frag} {tp:Addr} (hn:l.most=some 63) (hdf:d.params.defaults=[])
  (hY:∀ (w:World) (h:Heap),YP w h->(K w.params).In h/\h.get? tp=some { cls:=.none,data:=.fields #[] }) (hK:∀ p,(K p).lookup tp=none) (hC:∀ (w:World) (h:Heap),(K w.params).In h->isCodeTable h tp)
  (F:∀ (w:World) (mg:Str->Option Value) (fa:Addr) (h:Heap),(K w.params).In h->h.Ns mainGlobals mg->mg d.name=some (.ref fa) ->
   ∃ fd:FuncData,(∀ (s:Shared) (u:Value),BindsTo s fd ⟨[u],[]⟩ [("_law_script",u)])/\∀ base:Heap,(K w.params).In base->base.Ns mainGlobals mg->Y4 l.prog w (K w.params) mg base CX0 11 fa fd ["_law_script"] (spLaw (K w.params) tp)) :
  W.WalkO q loose XP YP l.row.toRowW d [] (fun f vs=>PySem.call f vs):=by
 refine Att.attach_call hn hdf fun w s₀ s₁ mg mb fa o pm cd doc a vs ns G Y ho hd hcd hmg hobj hints hlen hg=>?_
 obtain ⟨KX,hT⟩:=hY w _ Y
 obtain ⟨fd,hb,hF⟩:=F w mg fa _ KX G.T.g hmg
 exact call_law KX G.T.g G.T.b G.T.builtins G.T.nolimit hg hobj hints (Nat.le_trans hlen (by decide)) ⟨rfl,by decide,by decide,rfl⟩ hT (hK _) (hC w _ KX) hF hb fun H hP hS=>⟨a,ns,rfl,hS,hlen,tb_start hP,fun _=>rfl⟩
structure FA (K:W.Frag) (x:Str) (st:Stmt) (f:Addr) (fd:FuncData):Prop where
 a:W.nsIn K mainGlobals x=some (some (.ref f))
 F:Fun K x x st f fd
set_option maxHeartbeats 0 in
theorem all_mk {l:W.OpenLaw} {w:World} {K:W.Frag} {h:Heap} {mg:Str->Option Value} {fa f1 f2 f3 f4 f5 f6 f7 f8 f9 f10 f11 f12 f13 f14 f15 f16 f17 f18 f19 cW tp bm:Addr} {d1 d2 d3 d4 d5 d6 d7 d8 d9 d10 d11 d12 d13 d14 d15 d16 d17 d18 d19:FuncData} (X:K.In h) (G:h.Ns mainGlobals mg) (hfa:mg "law" = some (.ref fa))
  (h1:FA K "member_of" s_member_of f1 d1)
  (h2:FA K "form_of" s_form_of f2 d2)
  (h3:FA K "written" Vh f3 d3)
  (h4:FA K "written_fields" Vf f4 d4)
  (h5:FA K "_law_feed" s_law_feed f5 d5)
  (h6:FA K "_law_draw" s_law_draw f6 d6)
  (h7:FA K "_law_names" s_law_names f7 d7)
  (h8:FA K "_law_numbers" s_law_numbers f8 d8)
  (h9:FA K "_law_plain_shape" Ve f9 d9)
  (h10:FA K "_law_plain_value" Vi f10 d10)
  (h11:FA K "_law_struck" s_law_struck f11 d11)
  (h12:FA K "_law_parts" s_law_parts f12 d12)
  (h13:FA K "_law_make" s_law_make f13 d13)
  (h14:FA K "_law_value" Vp f14 d14)
  (h15:FA K "_law_record" s_law_record f15 d15)
  (h16:FA K "_law_item" s_law_item f16 d16)
  (h17:FA K "_law_wild" Ys f17 d17)
  (h18:FA K "_law_item_of" Y2 f18 d18)
  (h19:FA K "law" s_law f19 d19)
  (z_len:W.nsIn K mainGlobals "len" = some none)
  (z_all:W.nsIn K mainGlobals "all" = some none)
  (z_any:W.nsIn K mainGlobals "any" = some none)
  (z_max:W.nsIn K mainGlobals "max" = some none)
  (z_min:W.nsIn K mainGlobals "min" = some none)
  (z_isinstance:W.nsIn K mainGlobals "isinstance" = some none)
  (z_tuple:W.nsIn K mainGlobals "tuple" = some none)
  (z_list:W.nsIn K mainGlobals "list" = some none)
  (z_set:W.nsIn K mainGlobals "set" = some none)
  (z_int:W.nsIn K mainGlobals "int" = some none)
  (z_str:W.nsIn K mainGlobals "str" = some none)
  (z_bool:W.nsIn K mainGlobals "bool" = some none)
  (z_dict:W.nsIn K mainGlobals "dict" = some none)
  (z_range:W.nsIn K mainGlobals "range" = some none)
  (z_zip:W.nsIn K mainGlobals "zip" = some none)
  (z_enumerate:W.nsIn K mainGlobals "enumerate" = some none)
  (z_sorted:W.nsIn K mainGlobals "sorted" = some none)
  (z_repr:W.nsIn K mainGlobals "repr" = some none)
  (FW:FunC K "written" "written" Vh f3 d3 cW)
  (hC:codeHdB K cW tp=true)
  (aB:W.nsIn K mainGlobals "__builtins__" = some (some (.ref bm)))
  (hB:bltB K bm tp=true)
  (hN:mainGlobals≠tp)
  : ∃ fd:FuncData,(∀ (s:Shared) (v:Value),BindsTo s fd ⟨[v],[]⟩ [("_law_script",v)])/\∀ base:Heap,K.In base->base.Ns mainGlobals mg->Y4 l.prog w K mg base CX0 11 fa fd ["_law_script"] (spLaw K tp):=by
 have e:=hfa.symm.trans (W.mg_of X G h19.a)
 cases e
 have F_member_of:=h1.F
 have b_member_of:=F_member_of.binds (ps:=["shape","number"]) fun _ _ _ _ _ _ us hl=>match us,hl with | [_,_],_=>rfl
 have m_member_of:=W.mg_of X G h1.a
 have F_form_of:=h2.F
 have b_form_of:=F_form_of.binds (ps:=["make","name"]) fun _ _ _ _ _ _ us hl=>match us,hl with | [_,_],_=>rfl
 have m_form_of:=W.mg_of X G h2.a
 have F_written:=h3.F
 have b_written:=F_written.binds (ps:=["make","name","value"]) fun _ _ _ _ _ _ us hl=>match us,hl with | [_,_,_],_=>rfl
 have m_written:=W.mg_of X G h3.a
 have F_written_fields:=h4.F
 have b_written_fields:=F_written_fields.binds (ps:=["make","fields"]) fun _ _ _ _ _ _ us hl=>match us,hl with | [_,_],_=>rfl
 have m_written_fields:=W.mg_of X G h4.a
 have F_law_feed:=h5.F
 have b_law_feed:=F_law_feed.binds (ps:=["_law_script"]) fun _ _ _ _ _ _ us hl=>match us,hl with | [_],_=>rfl
 have m_law_feed:=W.mg_of X G h5.a
 have F_law_draw:=h6.F
 have b_law_draw:=F_law_draw.binds (ps:=["_law_feed_here","_law_many"]) fun _ _ _ _ _ _ us hl=>match us,hl with | [_,_],_=>rfl
 have m_law_draw:=W.mg_of X G h6.a
 have F_law_names:=h7.F
 have b_law_names:=F_law_names.binds (ps:=["_law_feed_here","_law_many"]) fun _ _ _ _ _ _ us hl=>match us,hl with | [_,_],_=>rfl
 have m_law_names:=W.mg_of X G h7.a
 have F_law_numbers:=h8.F
 have b_law_numbers:=F_law_numbers.binds (ps:=["_law_feed_here","_law_most"]) fun _ _ _ _ _ _ us hl=>match us,hl with | [_,_],_=>rfl
 have m_law_numbers:=W.mg_of X G h8.a
 have F_law_plain_shape:=h9.F
 have b_law_plain_shape:=F_law_plain_shape.binds (ps:=["_law_feed_here","_law_names_here"]) fun _ _ _ _ _ _ us hl=>match us,hl with | [_,_],_=>rfl
 have m_law_plain_shape:=W.mg_of X G h9.a
 have F_law_plain_value:=h10.F
 have b_law_plain_value:=F_law_plain_value.binds (ps:=["_law_feed_here","_law_shape"]) fun _ _ _ _ _ _ us hl=>match us,hl with | [_,_],_=>rfl
 have m_law_plain_value:=W.mg_of X G h10.a
 have F_law_struck:=h11.F
 have b_law_struck:=F_law_struck.binds (ps:=["_law_feed_here","_law_numbers_here"]) fun _ _ _ _ _ _ us hl=>match us,hl with | [_,_],_=>rfl
 have m_law_struck:=W.mg_of X G h11.a
 have F_law_parts:=h12.F
 have b_law_parts:=F_law_parts.binds (ps:=["_law_feed_here","_law_names_here","_law_shapes"]) fun _ _ _ _ _ _ us hl=>match us,hl with | [_,_,_],_=>rfl
 have m_law_parts:=W.mg_of X G h12.a
 have F_law_make:=h13.F
 have b_law_make:=F_law_make.binds (ps:=["_law_feed_here"]) fun _ _ _ _ _ _ us hl=>match us,hl with | [_],_=>rfl
 have m_law_make:=W.mg_of X G h13.a
 have F_law_value:=h14.F
 have b_law_value:=F_law_value.binds (ps:=["_law_feed_here","_law_make_here","_law_name","_law_deep"]) fun _ _ _ _ _ _ us hl=>match us,hl with | [_,_,_,_],_=>rfl
 have m_law_value:=W.mg_of X G h14.a
 have F_law_record:=h15.F
 have b_law_record:=F_law_record.binds (ps:=["_law_feed_here","_law_make_here","_law_shape","_law_deep"]) fun _ _ _ _ _ _ us hl=>match us,hl with | [_,_,_,_],_=>rfl
 have m_law_record:=W.mg_of X G h15.a
 have F_law_item:=h16.F
 have b_law_item:=F_law_item.binds (ps:=["_law_feed_here","_law_deep"]) fun _ _ _ _ _ _ us hl=>match us,hl with | [_,_],_=>rfl
 have m_law_item:=W.mg_of X G h16.a
 have F_law_wild:=h17.F
 have b_law_wild:=F_law_wild.binds (ps:=["_law_feed_here","_law_make_here","_law_name","_law_value_here"]) fun _ _ _ _ _ _ us hl=>match us,hl with | [_,_,_,_],_=>rfl
 have m_law_wild:=W.mg_of X G h17.a
 have F_law_item_of:=h18.F
 have b_law_item_of:=F_law_item_of.binds (ps:=["_law_make_here","_law_name","_law_value_here"]) fun _ _ _ _ _ _ us hl=>match us,hl with | [_,_,_],_=>rfl
 have m_law_item_of:=W.mg_of X G h18.a
 have F_law:=h19.F
 have m:Bn mg:=⟨W.mg_none_of X G z_len,W.mg_none_of X G z_all,W.mg_none_of X G z_any,W.mg_none_of X G z_max,W.mg_none_of X G z_min,W.mg_none_of X G z_isinstance,W.mg_none_of X G z_tuple,W.mg_none_of X G z_list,W.mg_none_of X G z_set,W.mg_none_of X G z_int,W.mg_none_of X G z_str,W.mg_none_of X G z_bool,W.mg_none_of X G z_dict,W.mg_none_of X G z_range,W.mg_none_of X G z_zip,W.mg_none_of X G z_enumerate,W.mg_none_of X G z_sorted,W.mg_none_of X G z_repr⟩
 obtain ⟨oc,od,kV,doc,pm,an,cdv,ct,osl,rfl,lk,hcd⟩:=F_law.ex
 refine ⟨W.fnOf "law" "law" (defArgs s_law) (V2 s_law) (Zf s_law) .none kV doc pm an cdv ct,fun s v=>.of_eq rfl,fun base _ _=>?_⟩
 have lam:LamW K mg cW tp:=⟨fun _ X=>codeHd_of hC X,fun _ X'=>blt_of hB (W.mg_of X G aB) X',hN⟩
 have gf:Fn l.prog w K mg base 1 "_law_feed" ["_law_script"] (spFeed K):=⟨_,_,ok_feed F_law_feed m,b_law_feed,F_law_feed.kp,m_law_feed⟩
 have gr:Fn l.prog w K mg base 1 "_law_draw" ["_law_feed_here","_law_many"] spDraw:=⟨_,_,ok_draw F_law_draw m,b_law_draw,F_law_draw.kp,m_law_draw⟩
 have g_nm:Fn l.prog w K mg base 2 "_law_names" ["_law_feed_here","_law_many"] spNames:=⟨_,_,ok_names F_law_names m gr,b_law_names,F_law_names.kp,m_law_names⟩
 have g_ns:Fn l.prog w K mg base 2 "_law_numbers" ["_law_feed_here","_law_most"] spNumbers:=⟨_,_,ok_numbers F_law_numbers m gr,b_law_numbers,F_law_numbers.kp,m_law_numbers⟩
 have g_ps:Fn l.prog w K mg base 2 "_law_plain_shape" ["_law_feed_here","_law_names_here"] (spPlainS K):=⟨_,_,ok_plain_shape F_law_plain_shape m gr,b_law_plain_shape,F_law_plain_shape.kp,m_law_plain_shape⟩
 have g_pv:Fn l.prog w K mg base 2 "_law_plain_value" ["_law_feed_here","_law_shape"] (spPlainV K):=⟨_,_,ok_plain_value F_law_plain_value m gr,b_law_plain_value,F_law_plain_value.kp,m_law_plain_value⟩
 have g_sd:Fn l.prog w K mg base 2 "_law_struck" ["_law_feed_here","_law_numbers_here"] (spStruckD K):=⟨_,_,ok_struckD F_law_struck m gr,b_law_struck,F_law_struck.kp,m_law_struck⟩
 have g_pd:Fn l.prog w K mg base 3 "_law_parts" ["_law_feed_here","_law_names_here","_law_shapes"] (spPartsD K):=⟨_,_,ok_partsD F_law_parts m gr g_nm g_ns g_pv,b_law_parts,F_law_parts.kp,m_law_parts⟩
 have g_mk:Fn l.prog w K mg base 4 "_law_make" ["_law_feed_here"] (spMake K):=⟨_,_,ok_make F_law_make m gr g_nm g_ps g_pd g_sd,b_law_make,F_law_make.kp,m_law_make⟩
 have g_mb:Fn l.prog w K mg base 1 "member_of" ["shape","number"] (spMember K):=⟨_,_,ok_member_of F_member_of m,b_member_of,F_member_of.kp,m_member_of⟩
 have g_fo:Fn l.prog w K mg base 1 "form_of" ["make","name"] (spForm K):=⟨_,_,ok_form_of F_form_of m,b_form_of,F_form_of.kp,m_form_of⟩
 have gw_:Fn l.prog w K mg base 1 "written" ["make","name","value"] (spWr K (TW tp) fun ms=>Wr' false ms 0):=⟨_,_,ok_no F_written sc_written no_wr,b_written,F_written.kp,m_written⟩
 have gq0:Fn l.prog w K mg base 2 "written_fields" ["make","fields"] (spFields K (TW tp) fun ms=>Wr' false ms 0):=⟨_,_,Vw F_written_fields m gw_,b_written_fields,F_written_fields.kp,m_written_fields⟩
 have gw0:Fn l.prog w K mg base 3 "written" ["make","name","value"] (spWr K (TW tp) fun ms=>Wr false ms 0):=⟨_,_,ok_written (n:=0) FW lam m g_fo g_mb gw_ gq0,b_written,F_written.kp,m_written⟩
 have gq1:Fn l.prog w K mg base 4 "written_fields" ["make","fields"] (spFields K (TW tp) fun ms=>Wr' false ms 1):=⟨_,_,Vw F_written_fields m gw0,b_written_fields,F_written_fields.kp,m_written_fields⟩
 have gw1:Fn l.prog w K mg base 5 "written" ["make","name","value"] (spWr K (TW tp) fun ms=>Wr false ms 1):=⟨_,_,ok_written (n:=1) FW lam m g_fo g_mb gw0 gq1,b_written,F_written.kp,m_written⟩
 have gq2:Fn l.prog w K mg base 6 "written_fields" ["make","fields"] (spFields K (TW tp) fun ms=>Wr' false ms 2):=⟨_,_,Vw F_written_fields m gw1,b_written_fields,F_written_fields.kp,m_written_fields⟩
 have gw2:Fn l.prog w K mg base 7 "written" ["make","name","value"] (spWr K (TW tp) fun ms=>Wr false ms 2):=⟨_,_,ok_written (n:=2) FW lam m g_fo g_mb gw1 gq2,b_written,F_written.kp,m_written⟩
 have gq3:Fn l.prog w K mg base 8 "written_fields" ["make","fields"] (spFields K (TW tp) fun ms=>Wr' false ms 3):=⟨_,_,Vw F_written_fields m gw2,b_written_fields,F_written_fields.kp,m_written_fields⟩
 have gw3:Fn l.prog w K mg base 9 "written" ["make","name","value"] (spWr K (TW tp) fun ms=>Wr false ms 3):=⟨_,_,ok_written (n:=3) FW lam m g_fo g_mb gw2 gq3,b_written,F_written.kp,m_written⟩
 have gi_:Fn l.prog w K mg base 1 "_law_item" ["_law_feed_here","_law_deep"] (spIt' K 0):=⟨_,_,ok_no F_law_item sc_law_item fun _ _ _ _ z=>z,b_law_item,F_law_item.kp,m_law_item⟩
 have gi0:Fn l.prog w K mg base 2 "_law_item" ["_law_feed_here","_law_deep"] (spIt K 0):=⟨_,_,ok_item (k:=0) (n:=0) F_law_item m gr gi_,b_law_item,F_law_item.kp,m_law_item⟩
 have gi1:Fn l.prog w K mg base 3 "_law_item" ["_law_feed_here","_law_deep"] (spIt K 1):=⟨_,_,ok_item (k:=1) (n:=1) F_law_item m gr gi0,b_law_item,F_law_item.kp,m_law_item⟩
 have gi2:Fn l.prog w K mg base 4 "_law_item" ["_law_feed_here","_law_deep"] (spIt K 2):=⟨_,_,ok_item (k:=2) (n:=2) F_law_item m gr gi1,b_law_item,F_law_item.kp,m_law_item⟩
 have go_:Fn l.prog w K mg base 1 "_law_item_of" ["_law_make_here","_law_name","_law_value_here"] (Vo K fun ms=>Wr' false ms 0):=⟨_,_,ok_no F_law_item_of Ye no_it,b_law_item_of,F_law_item_of.kp,m_law_item_of⟩
 have go0:Fn l.prog w K mg base 2 "_law_item_of" ["_law_make_here","_law_name","_law_value_here"] (Vo K fun ms=>Wr false ms 0):=⟨_,_,ok_item_of (n:=0) (by decide) F_law_item_of m go_,b_law_item_of,F_law_item_of.kp,m_law_item_of⟩
 have go1:Fn l.prog w K mg base 3 "_law_item_of" ["_law_make_here","_law_name","_law_value_here"] (Vo K fun ms=>Wr false ms 1):=⟨_,_,ok_item_of (n:=1) (by decide) F_law_item_of m go0,b_law_item_of,F_law_item_of.kp,m_law_item_of⟩
 have go2:Fn l.prog w K mg base 4 "_law_item_of" ["_law_make_here","_law_name","_law_value_here"] (Vo K fun ms=>Wr false ms 2):=⟨_,_,ok_item_of (n:=2) (by decide) F_law_item_of m go1,b_law_item_of,F_law_item_of.kp,m_law_item_of⟩
 have go3:Fn l.prog w K mg base 5 "_law_item_of" ["_law_make_here","_law_name","_law_value_here"] (Vo K fun ms=>Wr false ms 3):=⟨_,_,ok_item_of (n:=3) (by decide) F_law_item_of m go2,b_law_item_of,F_law_item_of.kp,m_law_item_of⟩
 have gv_:Fn l.prog w K mg base 2 "_law_value" ["_law_feed_here","_law_make_here","_law_name","_law_deep"] (spVal' K 0):=⟨_,_,ok_no F_law_value Yb fun _ _ _ _ z=>z,b_law_value,F_law_value.kp,m_law_value⟩
 have gc_:Fn l.prog w K mg base 3 "_law_record" ["_law_feed_here","_law_make_here","_law_shape","_law_deep"] (spRec' K 0):=⟨_,_,ok_no F_law_record Yc fun _ _ _ _ z=>z,b_law_record,F_law_record.kp,m_law_record⟩
 have gv0:Fn l.prog w K mg base 4 "_law_value" ["_law_feed_here","_law_make_here","_law_name","_law_deep"] (spVal K 0):=⟨_,_,ok_value (n:=0) (by decide) (by decide) F_law_value m gr g_nm g_pv gv_ gc_,b_law_value,F_law_value.kp,m_law_value⟩
 have gc1:Fn l.prog w K mg base 5 "_law_record" ["_law_feed_here","_law_make_here","_law_shape","_law_deep"] (spRec K 0):=⟨_,_,ok_record (n:=0) (by decide) F_law_record m gr gv0 (by decide),b_law_record,F_law_record.kp,m_law_record⟩
 have gv1:Fn l.prog w K mg base 6 "_law_value" ["_law_feed_here","_law_make_here","_law_name","_law_deep"] (spVal K 1):=⟨_,_,ok_value (n:=1) (by decide) (by decide) F_law_value m gr g_nm g_pv gv0 gc1,b_law_value,F_law_value.kp,m_law_value⟩
 have gc2:Fn l.prog w K mg base 7 "_law_record" ["_law_feed_here","_law_make_here","_law_shape","_law_deep"] (spRec K 1):=⟨_,_,ok_record (n:=1) (by decide) F_law_record m gr gv1 (by decide),b_law_record,F_law_record.kp,m_law_record⟩
 have gv2:Fn l.prog w K mg base 8 "_law_value" ["_law_feed_here","_law_make_here","_law_name","_law_deep"] (spVal K 2):=⟨_,_,ok_value (n:=2) (by decide) (by decide) F_law_value m gr g_nm g_pv gv1 gc2,b_law_value,F_law_value.kp,m_law_value⟩
 have gc3:Fn l.prog w K mg base 9 "_law_record" ["_law_feed_here","_law_make_here","_law_shape","_law_deep"] (spRec K 2):=⟨_,_,ok_record (n:=2) (by decide) F_law_record m gr gv2 (by decide),b_law_record,F_law_record.kp,m_law_record⟩
 have gv3:Fn l.prog w K mg base 10 "_law_value" ["_law_feed_here","_law_make_here","_law_name","_law_deep"] (spVal K 3):=⟨_,_,ok_value (n:=3) (by decide) (by decide) F_law_value m gr g_nm g_pv gv2 gc3,b_law_value,F_law_value.kp,m_law_value⟩
 have gx_:Fn l.prog w K mg base 4 "_law_wild" ["_law_feed_here","_law_make_here","_law_name","_law_value_here"] (spWild' K 0):=⟨_,_,ok_no F_law_wild Y0 fun _ _ _ _ z=>z,b_law_wild,F_law_wild.kp,m_law_wild⟩
 have gx0:Fn l.prog w K mg base 5 "_law_wild" ["_law_feed_here","_law_make_here","_law_name","_law_value_here"] (spWild K 0):=⟨_,_,ok_wild (n:=0) (by decide) F_law_wild m gr gi2 gx_,b_law_wild,F_law_wild.kp,m_law_wild⟩
 have gx1:Fn l.prog w K mg base 6 "_law_wild" ["_law_feed_here","_law_make_here","_law_name","_law_value_here"] (spWild K 1):=⟨_,_,ok_wild (n:=1) (by decide) F_law_wild m gr gi2 gx0,b_law_wild,F_law_wild.kp,m_law_wild⟩
 have gx2:Fn l.prog w K mg base 7 "_law_wild" ["_law_feed_here","_law_make_here","_law_name","_law_value_here"] (spWild K 2):=⟨_,_,ok_wild (n:=2) (by decide) F_law_wild m gr gi2 gx1,b_law_wild,F_law_wild.kp,m_law_wild⟩
 have gx3:Fn l.prog w K mg base 8 "_law_wild" ["_law_feed_here","_law_make_here","_law_name","_law_value_here"] (spWild K 3):=⟨_,_,ok_wild (n:=3) (by decide) F_law_wild m gr gi2 gx2,b_law_wild,F_law_wild.kp,m_law_wild⟩
 exact ok_law F_law m gf g_mk gi2 gv3 gx3 go3 gw3
end K24
open PySem PySem.W PyProof.Rows
set_option maxRecDepth 100000 in
set_option maxHeartbeats 0 in
theorem K24.ws:PySem.Challenge.rw_makes_k24_values_written.wellSaid=true:=by
 delta OpenLaw.wellSaid
 refine look_both (look_both (look_both (look_both (look_both (look_both (look_both (look_both (look_both (look_both (look_both (look_both (look_both (look_both (look_both (look_both (look_both (look_both ?_ ?_) ?_) ?_) ?_) ?_) ?_) ?_) ?_) ?_) ?_) ?_) ?_) ?_) ?_) ?_) ?_) ?_) ?_
 case _ =>
  delta OpenRow.wellSaid
  refine look_both (look_both ?_ ?_) ?_
  case _ =>
   delta OpenRow.partSaid
   refine look_both (look_both (look_both (look_both (look_both (look_both (look_both (look_both (look_both (look_both (look_both (look_both (look_both ?_ ?_) ?_) ?_) ?_) ?_) ?_) ?_) ?_) ?_) ?_) ?_) ?_) ?_
   case _ =>
    delta looksOpen
    refine look_both (look_both (look_both (look_both (look_both ?_ ?_) ?_) ?_) ?_) ?_
    all_goals decide +kernel
   all_goals decide +kernel
  all_goals decide +kernel
 all_goals decide +kernel
theorem K24.cd_tab (P:Params):K24.codeHdB (K24.heapK1 P) 32 30=true:=by kernel_rfl
set_option maxRecDepth 100000 in
set_option maxHeartbeats 0 in
theorem PySem.Challenge.cw_makes_k24_values_written_holds : PySem.Challenge.rw_makes_k24_values_written.Holds := by
 w_on
 refine holds_law K24.ws fun said=>?_
 refine holds_open (q:=K24.viewK) (loose:=K24.Vx) (XP:=XL K24.viewK []) (YP:=Hook.says (W.kHook K24.heapK K24.asK K24.asK_eq)) (N:=1316)
  K24.leftK (Hook.of (W.kHook K24.heapK K24.asK K24.asK_eq)) (Hook.keeps (W.kHook K24.heapK K24.asK K24.asK_eq)) (fun s e=>xl_of s (Bool.and_eq_true_iff.mp e).1)
  XL.keeps (by rfl) (by rfl) (by rfl) (fun s e=>recFacts_of (Bool.and_eq_true_iff.mp e).2) (by rfl) (by assumption)
  (by decide +kernel) ⟨rfl,rfl,rfl,rfl,rfl,by decide +kernel⟩ ?hw ?hc
 case hw=>w_witness2
 refine K24.walk (l:=PySem.Challenge.rw_makes_k24_values_written) (K:=K24.heapK1) (tp:=30) rfl rfl (fun w h Y=>K24.in_split (K24.no_tab _) (W.kIn_of Y)) (fun p=>K24.no_tab p) (fun w h X=>K24.codeTab_of (c:=32) (K24.cd_tab _) X) ?F
 case F =>
  k_fill
  intro w mg fa h KX G hmg
  refine' K24.all_mk KX G hmg ?h1 ?h2 ?h3 ?h4 ?h5 ?h6 ?h7 ?h8 ?h9 ?h10 ?h11 ?h12 ?h13 ?h14 ?h15 ?h16 ?h17 ?h18 ?h19 ?z_len ?z_all ?z_any ?z_max ?z_min ?z_isinstance ?z_tuple ?z_list ?z_set ?z_int ?z_str ?z_bool ?z_dict ?z_range ?z_zip ?z_enumerate ?z_sorted ?z_repr ?FW ?hC ?aB ?hB ?hN
  (case h1=>exact ⟨by k_is,L2.Y7 (by k_is) (by k_is) (by k_is)⟩); (case h2=>exact ⟨by k_is,L2.Y7 (by k_is) (by k_is) (by k_is)⟩)
  (case h3=>exact ⟨by k_is,L2.Y7 (by k_is) (by k_is) (by k_is)⟩); (case h4=>exact ⟨by k_is,L2.Y7 (by k_is) (by k_is) (by k_is)⟩)
  (case h5=>exact ⟨by k_is,L2.Y7 (by k_is) (by k_is) (by k_is)⟩); (case h6=>exact ⟨by k_is,L2.Y7 (by k_is) (by k_is) (by k_is)⟩)
  (case h7=>exact ⟨by k_is,L2.Y7 (by k_is) (by k_is) (by k_is)⟩); (case h8=>exact ⟨by k_is,L2.Y7 (by k_is) (by k_is) (by k_is)⟩)
  (case h9=>exact ⟨by k_is,L2.Y7 (by k_is) (by k_is) (by k_is)⟩); (case h10=>exact ⟨by k_is,L2.Y7 (by k_is) (by k_is) (by k_is)⟩)
  (case h11=>exact ⟨by k_is,L2.Y7 (by k_is) (by k_is) (by k_is)⟩); (case h12=>exact ⟨by k_is,L2.Y7 (by k_is) (by k_is) (by k_is)⟩)
  (case h13=>exact ⟨by k_is,L2.Y7 (by k_is) (by k_is) (by k_is)⟩); (case h14=>exact ⟨by k_is,L2.Y7 (by k_is) (by k_is) (by k_is)⟩)
  (case h15=>exact ⟨by k_is,L2.Y7 (by k_is) (by k_is) (by k_is)⟩); (case h16=>exact ⟨by k_is,L2.Y7 (by k_is) (by k_is) (by k_is)⟩)
  (case h17=>exact ⟨by k_is,L2.Y7 (by k_is) (by k_is) (by k_is)⟩); (case h18=>exact ⟨by k_is,L2.Y7 (by k_is) (by k_is) (by k_is)⟩)
  (case h19=>exact ⟨by k_is,L2.Y7 (by k_is) (by k_is) (by k_is)⟩); (case z_len=>k_is); (case z_all=>k_is); (case z_any=>k_is); (case z_max=>k_is); (case z_min=>k_is)
  (case z_isinstance=>k_is); (case z_tuple=>k_is); (case z_list=>k_is); (case z_set=>k_is); (case z_int=>k_is); (case z_str=>k_is); (case z_bool=>k_is); (case z_dict=>k_is)
  (case z_range=>k_is); (case z_zip=>k_is); (case z_enumerate=>k_is); (case z_sorted=>k_is); (case z_repr=>k_is); (case FW=>exact K24.fun_mkC (by k_is) (by k_is) (by k_is))
  (case hC=>kernel_rfl); (case aB=>k_is); (case hB=>kernel_rfl); (case hN=>decide)
